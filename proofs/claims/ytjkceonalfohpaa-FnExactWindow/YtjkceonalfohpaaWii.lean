/- Window: the program. -/
import Derived.Test.YtjkceonalfohpaaWin
import Derived.Deep.RegionHeld
namespace Go.Proofs.Ytjkceonalfohpaa
open Go.RowKit

set_option maxRecDepth 100000 in
set_option maxHeartbeats 4000000 in
theorem implWindow_any (W H : Int) (a : Option Addr) (n cap : Nat) (f : Nat → Int) (hl : n ≤ 1048576) (lo hi : Int) (w : World) (h : Px a n f w) :
    Calls Try.prog 63 #[im W H a n cap, .int .i64 lo, .int .i64 hi] w (ImR (winW W H n f lo hi) (winH W H n f lo hi) (winN W H n f lo hi) (winF f lo hi) w) := by
  have HS0 := hide (((St.start w).box [.int .i64 W, .int .i64 H, .slice a n cap] 39).box' [.int .i64 0, .int .i64 0, .slice none 0 0] 39 (b := w.heap.size + 1) (by simp))
  have HP := hide h
  generalize hA : (w.alloc (.cells [.int .i64 W, .int .i64 H, .slice a n cap].toArray 39)).alloc (.cells [.int .i64 0, .int .i64 0, .slice none 0 0].toArray 39) = wA at HS0
  have hA' : (w.alloc (.cells #[.int .i64 W, .int .i64 H, .slice a n cap] 39)).alloc (.cells #[.int .i64 0, .int .i64 0, .slice none 0 0] 39) = wA := hA
  clear hA h
  obtain ⟨z0, z1, z2⟩ := HS0.out.im3 1 rfl
  have c := implOk_any W H a n cap f hl wA (HP.out.below HS0.out.below)
  obtain ⟨Q, hQ⟩ : ∃ Q, Q = ImR (winW W H n f lo hi) (winH W H n f lo hi) (winN W H n f lo hi) (winF f lo hi) w := ⟨_, rfl⟩
  rw [← hQ]
  have HQn : Hid (winB W H n f lo hi = false → ∀ L O w', St w L O w' → Q (.returned (im 0 0 none 0 0)) w') := fun e L O w' hs => by
    rw [hQ]; unfold winW winH winN; rw [e]; exact hs.imN _
  have HQy : Hid (winB W H n f lo hi = true → Q = ImR W H n (winF f lo hi) w) := fun e => by
    rw [hQ]; unfold winW winH winN; rw [e]; rfl
  clear hQ
  cases hq : winB W H n f lo hi
  · have HF := hide (HQn.out hq)
    clear HQn HQy
    cases hk : okB W H n f
    · rw [hk] at c
      clear hk hq
      go_enter Try.func63, Try.ntmps63
      go_wp2_with fail
      refine c.mono ?_
      rintro e w1 ⟨rfl, hb⟩
      have HS1 := hide (HS0.out.next hb)
      obtain ⟨y0, y1, y2⟩ := HS1.out.im3 0 rfl
      obtain ⟨e0, e1, e2⟩ := HS1.out.fr3 0 rfl
      have HE := hide (HF.out _ _ _ (HS1.out.fill3 (.int .i64 0) (.int .i64 0) (.slice none 0 0)))
      clear hb c HS0 HS1 HF z0 z1 z2 hA'
      go_wp2_with fail
      exact bodyPost_ret (v := im 0 0 none 0 0) (by simp [results, Try.results63, go_sem, y0, y1, y2]) rfl HE.out
    · rw [hk] at c
      have hno : ¬ (-1000000000 ≤ lo ∧ hi ≤ 1000000000 ∧ lo < hi) := by
        unfold winB at hq
        rw [hk] at hq
        simp at hq
        omega
      clear hk hq
      have cL := within_any lo (-1000000000) 1000000000
      go_enter Try.func63, Try.ntmps63
      go_wp2_with fail
      refine c.mono ?_
      rintro e w1 ⟨rfl, hb⟩
      have HS1 := hide (HS0.out.next hb)
      obtain ⟨y0, y1, y2⟩ := HS1.out.im3 0 rfl
      obtain ⟨e0, e1, e2⟩ := HS1.out.fr3 0 rfl
      have HE := hide (HF.out _ _ _ (HS1.out.fill3 (.int .i64 0) (.int .i64 0) (.slice none 0 0)))
      clear hb c HS0 HS1 HF z0 z1 z2 hA'
      cases hL : inB lo (-1000000000) 1000000000
      · rw [hL] at cL
        clear hno hL
        go_wp2_with fail
        refine (cL _).mono ?_
        rintro e w1 ⟨rfl, rfl⟩
        go_wp2_with fail
        exact bodyPost_ret (v := im 0 0 none 0 0) (by simp [results, Try.results63, go_sem, y0, y1, y2]) rfl HE.out
      · rw [hL] at cL
        have hlb : -1000000000 ≤ lo ∧ lo ≤ 1000000000 := by unfold inB at hL; simpa using hL
        have cH := within_any hi (lo + 1) 1000000000
        have hHf : inB hi (lo + 1) 1000000000 = false := by unfold inB; simp; omega
        rw [hHf] at cH
        obtain ⟨L1, hL1⟩ : ∃ L1, L1 = lo + 1 := ⟨_, rfl⟩
        have wL : IntKind.i64.wrap (lo + 1) = L1 := by rw [IntKind.wrap_i64]; omega
        rw [← hL1] at cH
        clear hno hL hHf hL1 hlb
        go_wp2_with fail
        refine (cL _).mono ?_
        rintro e w1 ⟨rfl, rfl⟩
        go_wp2_with fail
        refine (cH _).mono ?_
        rintro e w1 ⟨rfl, rfl⟩
        go_wp2_with fail
        exact bodyPost_ret (v := im 0 0 none 0 0) (by simp [results, Try.results63, go_sem, y0, y1, y2]) rfl HE.out
  have HQ := hide (HQy.out hq)
  obtain ⟨hk, h1, h2, h3⟩ : okB W H n f = true ∧ -1000000000 ≤ lo ∧ hi ≤ 1000000000 ∧ lo < hi := by
    unfold winB at hq
    simpa using hq
  obtain ⟨hW, hH, hn, hall⟩ := okB_parts hk
  have hpb := prod_bounds hW hH
  rw [hk] at c
  have hn0 : n ≠ 0 := by omega
  have cL := within_any lo (-1000000000) 1000000000
  have cH := within_any hi (lo + 1) 1000000000
  have hL : inB lo (-1000000000) 1000000000 = true := by unfold inB; simp; omega
  have hHt : inB hi (lo + 1) 1000000000 = true := by unfold inB; simp; omega
  rw [hHt] at cH
  rw [hL] at cL
  obtain ⟨L1, hL1⟩ : ∃ L1, L1 = lo + 1 := ⟨_, rfl⟩
  have wL : IntKind.i64.wrap (lo + 1) = L1 := by rw [IntKind.wrap_i64]; omega
  rw [← hL1] at cH
  have hmk := fun w => make_px n (by omega) w
  clear HQn HQy hq hk hW hH hall hn hpb hL hHt hL1
  go_enter Try.func63, Try.ntmps63
  go_wp2_with fail
  refine c.mono ?_
  rintro e w1 ⟨rfl, hb⟩
  have HS1 := hide (HS0.out.next hb)
  obtain ⟨i0, i1, i2⟩ := HS1.out.im3 1 rfl
  clear hb c HS0 z0 z1 z2 hA'
  go_wp2_with fail
  refine (cL _).mono ?_
  rintro e w1 ⟨rfl, rfl⟩
  go_wp2_with fail
  refine (cH _).mono ?_
  rintro e w1 ⟨rfl, rfl⟩
  clear cL cH wL
  have sz := (HS1.out.ltB 1 rfl).2
  have n0 := World.new_ne w1 _ i0
  have n1 := World.new_ne w1 _ i1
  have n2 := World.new_ne w1 _ i2
  go_upto_region 3 with fail
  go_region_held (fun w' => w'.cell? ⟨w.heap.size, 0, none⟩ = some (.int .i64 W) ∧ w'.cell? ⟨w.heap.size, 1, none⟩ = some (.int .i64 H) ∧ w'.cell? ⟨w.heap.size, 2, none⟩ = some (.slice a n cap))
    (first | exact ⟨i0, i1, i2⟩ | go_keep)
    (fail)
  all_goals
    clear i0 i1 i2 n0 n1 n2 sz hmk
    first
    | (refine (show Exit.then _ _ Exit.normal _ ((World.alloc _ (Obj.cells (madeCells _ _) 2)).drew) from ?_)
       obtain ⟨wX, hX⟩ : ∃ wX, wX = ((w1.alloc (.cells #[.int .i64 W, .int .i64 H, .slice (some ⟨w1.heap.size + 1, 0, none⟩) n n] 39)).alloc (.cells (madeCells #[.int .i64 0] n) 2)).drew := ⟨_, rfl⟩
       rw [← hX]
       have HS2 : Hid (St w [(w1.heap.size, [.int .i64 W, .int .i64 H, .slice (some ⟨w1.heap.size + 1, 0, none⟩) n n]), (w.heap.size + 1, [.int .i64 0, .int .i64 0, .slice none 0 0]), (w.heap.size, [.int .i64 W, .int .i64 H, .slice a n cap])] [(some ⟨w1.heap.size + 1, 0, none⟩, w1.heap.size + 1, n, fun _ => .int .i64 0)] wX) := by
         rw [hX]
         have hz : (w1.alloc (.cells #[.int .i64 W, .int .i64 H, .slice (some ⟨w1.heap.size + 1, 0, none⟩) n n] 39)).heap.size = w1.heap.size + 1 := by simp
         have hr := (row_new n (w1.alloc (.cells #[.int .i64 W, .int .i64 H, .slice (some ⟨w1.heap.size + 1, 0, none⟩) n n] 39))).v
         rw [hz] at hr
         exact ((HS1.out.box [.int .i64 W, .int .i64 H, .slice (some ⟨w1.heap.size + 1, 0, none⟩) n n] 39).own (bnew _ _) hr (.inr (by rw [show (w1.alloc (.cells [.int .i64 W, .int .i64 H, .slice (some ⟨w1.heap.size + 1, 0, none⟩) n n].toArray 39)).heap.size = w1.heap.size + 1 from hz]; exact Nat.le_refl _))).drew
       generalize w1.heap.size + 1 = B at *
       generalize w1.heap.size = X at *
       clear hX HS1)
    | (obtain ⟨wX, hX⟩ : ∃ wX, wX = ((w1.alloc (.cells (madeCells #[.int .i64 0] n) 2)).alloc (.cells #[.int .i64 W, .int .i64 H, .slice (some ⟨w1.heap.size, 0, none⟩) n n] 39)).drew := ⟨_, rfl⟩
       rw [← hX]
       have HS2 : Hid (St w [(w1.heap.size + 1, [.int .i64 W, .int .i64 H, .slice (some ⟨w1.heap.size, 0, none⟩) n n]), (w.heap.size + 1, [.int .i64 0, .int .i64 0, .slice none 0 0]), (w.heap.size, [.int .i64 W, .int .i64 H, .slice a n cap])] [(some ⟨w1.heap.size, 0, none⟩, w1.heap.size, n, fun _ => .int .i64 0)] wX) := by
         rw [hX]
         exact ((HS1.out.own (bnew w1 (.cells (madeCells #[.int .i64 0] n) 2)) (row_new n w1).v (.inr (Nat.le_refl _))).box' [.int .i64 W, .int .i64 H, .slice (some ⟨w1.heap.size, 0, none⟩) n n] 39 (b := w1.heap.size + 1) (by simp)).drew
       generalize w1.heap.size + 1 = X at *
       generalize w1.heap.size = B at *
       clear hX HS1)
    have HR2 : Hid (Row B n (fun _ => 0) wX) := ((HS2.out.nthO 0 rfl).resolve_left hn0).2
    obtain ⟨j0, j1, j2⟩ := HS2.out.im3 2 rfl
    go_wp2_with fail
    clear j0 j1 j2
    go_loopw [8, 9, 38] (fun _ _ i wr => ∃ k : Nat, k ≤ n ∧ i = .int .i64 k ∧ Kept B wX wr ∧ Part B n k (winF f lo hi) wr) (fun _ _ i _ => n - (intOf i).toNat)
    case atStart => exact ⟨0, by omega, rfl, Kept.refl _ _, HR2.out.part⟩
    case round =>
      obtain ⟨k, hk, rfl, hkept, hpart⟩ := hrel
      clear HR2
      by_cases hlt : k < n
      · have HSr := hide (HS2.out.out hn0 hkept)
        obtain ⟨i0, i1, i2⟩ := HSr.out.im3 0 rfl
        obtain ⟨ba, off, rfl, hz⟩ := (HP.out.below HSr.out.below).at hlt
        obtain ⟨⟨y', hy', _⟩, fr⟩ := hpart k hlt
        have hvb := winV_bd h3 (f k)
        have hpbd := winP_bd h3 (f k)
        have HV : Hid (winV lo hi (f k) = winF f lo hi k) := rfl
        have hPe := winP_eq h3 (f k)
        obtain ⟨V, hV⟩ : ∃ V, V = winV lo hi (f k) := ⟨_, rfl⟩
        obtain ⟨p, hp⟩ : ∃ p, p = winP lo hi (f k) := ⟨_, rfl⟩
        obtain ⟨D, hD⟩ : ∃ D, D = p - lo := ⟨_, rfl⟩
        obtain ⟨E, hE⟩ : ∃ E, E = 255 * D := ⟨_, rfl⟩
        obtain ⟨G, hG⟩ : ∃ G, G = hi - lo := ⟨_, rfl⟩
        obtain ⟨M, hM⟩ : ∃ M, max (f k) lo = M := ⟨_, rfl⟩
        have hVE : E.tdiv G = V := by rw [hV, hE, hG, hD, hp]; rfl
        rw [← hV] at hvb HV
        rw [← hp] at hpbd hPe
        rw [hM] at hPe
        have w1 : IntKind.i64.wrap (p - lo) = D := by rw [IntKind.wrap_i64]; omega
        have w2' : IntKind.i64.wrap (255 * D) = E := by rw [IntKind.wrap_i64]; omega
        have w3 : IntKind.i64.wrap (hi - lo) = G := by rw [IntKind.wrap_i64]; omega
        have w4 : IntKind.i64.wrap (E.tdiv G) = V := by rw [IntKind.wrap_i64, hVE]; omega
        have hG0 : (G == 0) = false := by simp; omega
        have hG1 : ¬ G = 0 := by omega
        have HW : Hid (wrap64 V = V) := by show _ = _; unfold wrap64; omega
        have HPn := hide (hpart.step hlt V HV.out)
        have HKn := hide (hkept.setCell (a := ⟨B, k, none⟩) rfl (.int .i64 V))
        clear hvb hpbd HV hV hp hD hE hG HSr hpart hkept HQ
        generalize f k = x at *
        go_upto_region 7 with fail
        go_region_with (fail)
        all_goals
          clear i0 i1 i2 hz hy' fr w1 w2' w3 w4 hG0 hG1 hVE hM hPe
          go_wp2_with fail
          refine ⟨⟨k + 1, by omega, rfl, ?_, ?_⟩, by simp [intOf]; omega⟩
          · first | exact HKn.out.drew | (rw [HW.out]; exact HKn.out.drew)
          · first | exact HPn.out.drew | (rw [HW.out]; exact HPn.out.drew)
      · obtain rfl : k = n := by omega
        have HSe := hide (HS2.out.mark0 hn0 hkept hpart.row.v)
        clear hkept hpart HS2 HP
        obtain ⟨i0, i1, i2⟩ := HSe.out.im3 0 rfl
        obtain ⟨z0, z1, z2⟩ := HSe.out.im3 1 rfl
        obtain ⟨e0, e1, e2⟩ := HSe.out.fr3 1 rfl
        have HE := hide ((St.fill3' (L1 := [_]) HSe.out (.int .i64 W) (.int .i64 H) (.slice (some ⟨B, 0, none⟩) k k)).imR W H k)
        rw [← HQ.out] at HE
        clear HSe HQ
        go_wp2_with fail
        exact bodyPost_ret (v := im W H (some ⟨B, 0, none⟩) k k) (by simp [results, Try.results63, go_sem, z0, z1, z2]) rfl HE.out

end Go.Proofs.Ytjkceonalfohpaa
