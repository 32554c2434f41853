/- Window: numbers, the specification. -/
import Derived.Test.YtjkceonalfohpaaHom
import Derived.Test.YtjkceonalfohpaaJrs
import Derived.Lib.MinMax
namespace Go.Proofs.Ytjkceonalfohpaa
open Go.RowKit

def winP (lo hi p : Int) : Int := max lo (min hi p)
def winV (lo hi p : Int) : Int := (255 * (winP lo hi p - lo)).tdiv (hi - lo)
theorem winP_bd {lo hi : Int} (h : lo < hi) (p : Int) : lo ≤ winP lo hi p ∧ winP lo hi p ≤ hi := by unfold winP; omega
theorem winP_eq {lo hi : Int} (h : lo < hi) (p : Int) : min (max p lo) hi = winP lo hi p := by unfold winP; omega
theorem winV_bd {lo hi : Int} (h : lo < hi) (p : Int) : 0 ≤ winV lo hi p ∧ winV lo hi p ≤ 255 := by
  have hb := winP_bd h p
  unfold winV
  rw [Int.tdiv_eq_ediv_of_nonneg (by omega)]
  refine ⟨Int.ediv_nonneg (by omega) (by omega), ?_⟩
  apply Int.le_of_lt_add_one
  apply Int.ediv_lt_of_lt_mul (by omega)
  omega
def winB (W H : Int) (n : Nat) (f : Nat → Int) (lo hi : Int) : Bool := okB W H n f && (decide (-1000000000 ≤ lo) && (decide (hi ≤ 1000000000) && decide (lo < hi)))
def winW (W H : Int) (n : Nat) (f : Nat → Int) (lo hi : Int) : Int := if winB W H n f lo hi = true then W else 0
def winH (W H : Int) (n : Nat) (f : Nat → Int) (lo hi : Int) : Int := if winB W H n f lo hi = true then H else 0
def winN (W H : Int) (n : Nat) (f : Nat → Int) (lo hi : Int) : Nat := if winB W H n f lo hi = true then n else 0
def winF (f : Nat → Int) (lo hi : Int) (k : Nat) : Int := winV lo hi (f k)
theorem winN_le {W H : Int} {n : Nat} {f : Nat → Int} {lo hi : Int} (h : n ≤ 1048576) : winN W H n f lo hi ≤ 1048576 := by
  unfold winN
  split <;> omega

set_option maxRecDepth 100000 in
theorem l1Min_any (x y : Int) (w : World) : Calls Try.prog 105 #[.int .i64 x, .int .i64 y] w fun e w' => e = .returned (.int .i64 (min x y)) ∧ w' = w := by
  by_cases h : x < y
  · have hm : min x y = x := by omega
    rw [hm]
    go_enter Try.func105, Try.ntmps105
    go_wp2
    go_ret
    exact ⟨rfl, rfl⟩
  · have hm : min x y = y := by omega
    rw [hm]
    go_enter Try.func105, Try.ntmps105
    go_wp2
    go_ret
    exact ⟨rfl, rfl⟩

set_option maxRecDepth 100000 in
set_option maxHeartbeats 4000000 in
theorem specWindow_any (W H : Int) (a : Option Addr) (n cap : Nat) (f : Nat → Int) (hl : n ≤ 1048576) (lo hi : Int) (w : World) (h : Px a n f w) :
    Calls Try.prog 61 #[im W H a n cap, .int .i64 lo, .int .i64 hi] w (ImR (winW W H n f lo hi) (winH W H n f lo hi) (winN W H n f lo hi) (winF f lo hi) w) := by
  have HS0 := hide (((St.start w).box [.int .i64 W, .int .i64 H, .slice a n cap] 39).box' [.int .i64 0, .int .i64 0, .slice none 0 0] 39 (b := w.heap.size + 1) (by simp))
  have HP := hide h
  generalize hA : (w.alloc (.cells [.int .i64 W, .int .i64 H, .slice a n cap].toArray 39)).alloc (.cells [.int .i64 0, .int .i64 0, .slice none 0 0].toArray 39) = wA at HS0
  have hA' : (w.alloc (.cells #[.int .i64 W, .int .i64 H, .slice a n cap] 39)).alloc (.cells #[.int .i64 0, .int .i64 0, .slice none 0 0] 39) = wA := hA
  clear hA h
  obtain ⟨z0, z1, z2⟩ := HS0.out.im3 1 rfl
  have c := specOk_any W H a n cap f hl wA (HP.out.below HS0.out.below)
  obtain ⟨Q, hQ⟩ : ∃ Q, Q = ImR (winW W H n f lo hi) (winH W H n f lo hi) (winN W H n f lo hi) (winF f lo hi) w := ⟨_, rfl⟩
  rw [← hQ]
  have HQn : Hid (winB W H n f lo hi = false → ∀ L O w', St w L O w' → Q (.returned (im 0 0 none 0 0)) w') := fun e L O w' hs => by
    rw [hQ]; unfold winW winH winN; rw [e]; exact hs.imN _
  have HQy : Hid (winB W H n f lo hi = true → Q = ImR W H n (winF f lo hi) w) := fun e => by
    rw [hQ]; unfold winW winH winN; rw [e]; rfl
  clear hQ
  cases hq : winB W H n f lo hi
  · have HF := hide (HQn.out hq)
    clear HQn HQy
    cases hk : okB W H n f
    · rw [hk] at c
      clear hk hq
      go_enter Try.func61, Try.ntmps61
      go_wp2_with fail
      refine c.mono ?_
      rintro e w1 ⟨rfl, hb⟩
      have HS1 := hide (HS0.out.next hb)
      obtain ⟨y0, y1, y2⟩ := HS1.out.im3 0 rfl
      obtain ⟨e0, e1, e2⟩ := HS1.out.fr3 0 rfl
      have HE := hide (HF.out _ _ _ (HS1.out.fill3 (.int .i64 0) (.int .i64 0) (.slice none 0 0)))
      clear hb c HS0 HS1 HF z0 z1 z2 hA'
      go_wp2_with fail
      exact bodyPost_ret (v := im 0 0 none 0 0) (by simp [results, Try.results61, go_sem, y0, y1, y2]) rfl HE.out
    · rw [hk] at c
      have hno : lo < -1000000000 ∨ 1000000000 < hi ∨ hi ≤ lo := by
        unfold winB at hq
        rw [hk] at hq
        simp at hq
        omega
      clear hk hq
      go_enter Try.func61, Try.ntmps61
      go_wp2_with fail
      refine c.mono ?_
      rintro e w1 ⟨rfl, hb⟩
      have HS1 := hide (HS0.out.next hb)
      obtain ⟨y0, y1, y2⟩ := HS1.out.im3 0 rfl
      obtain ⟨e0, e1, e2⟩ := HS1.out.fr3 0 rfl
      have HE := hide (HF.out _ _ _ (HS1.out.fill3 (.int .i64 0) (.int .i64 0) (.slice none 0 0)))
      clear hb c HS0 HS1 HF z0 z1 z2 hA'
      by_cases h1 : lo < -1000000000
      · clear hno
        go_wp2_with fail
        exact bodyPost_ret (v := im 0 0 none 0 0) (by simp [results, Try.results61, go_sem, y0, y1, y2]) rfl HE.out
      by_cases h2 : 1000000000 < hi
      · clear hno
        go_wp2_with fail
        exact bodyPost_ret (v := im 0 0 none 0 0) (by simp [results, Try.results61, go_sem, y0, y1, y2]) rfl HE.out
      · have h3 : hi ≤ lo := by omega
        clear hno
        go_wp2_with fail
        exact bodyPost_ret (v := im 0 0 none 0 0) (by simp [results, Try.results61, go_sem, y0, y1, y2]) rfl HE.out
  have HQ := hide (HQy.out hq)
  obtain ⟨hk, h1, h2, h3⟩ : okB W H n f = true ∧ -1000000000 ≤ lo ∧ hi ≤ 1000000000 ∧ lo < hi := by
    unfold winB at hq
    simpa using hq
  obtain ⟨hW, hH, hn, hall⟩ := okB_parts hk
  have hpb := prod_bounds hW hH
  rw [hk] at c
  have hnew := l2New_any W H n hn.symm (by omega)
  have hn0 : n ≠ 0 := by omega
  clear HQn HQy hq hk hW hH hall hn hpb
  go_enter Try.func61, Try.ntmps61
  go_wp2_with fail
  refine c.mono ?_
  rintro e w1 ⟨rfl, hb⟩
  have HS1 := hide (HS0.out.next hb)
  obtain ⟨i0, i1, i2⟩ := HS1.out.im3 1 rfl
  clear hb c HS0 z0 z1 z2 hA'
  go_wp2_with fail
  refine (hnew _).mono ?_
  rintro e w2 ⟨rfl, hr, hb, hs⟩
  have HS2 := hide ((HS1.out.own hb hr.v (.inr (by omega))).box [.int .i64 W, .int .i64 H, .slice (some ⟨w1.heap.size + 1, 0, none⟩) n n] 39)
  have HR2 := hide (hr.below (bnew w2 (.cells #[.int .i64 W, .int .i64 H, .slice (some ⟨w1.heap.size + 1, 0, none⟩) n n] 39)) hs)
  generalize hB : w1.heap.size + 1 = B at *
  clear hnew hr hb hs HS1 hB i0 i1 i2
  go_wp2_with fail
  generalize hX : w2.alloc (.cells #[.int .i64 W, .int .i64 H, .slice (some ⟨B, 0, none⟩) n n] 39) = wX at *
  clear hX
  go_loopw [8, 9] (fun i _ wr => ∃ k : Nat, k ≤ n ∧ i = .int .i64 k ∧ Kept B wX wr ∧ Part B n k (winF f lo hi) wr) (fun i _ _ => n - (intOf i).toNat)
  case atStart => exact ⟨0, by omega, rfl, Kept.refl _ _, HR2.out.part⟩
  case round =>
    obtain ⟨k, hk, rfl, hkept, hpart⟩ := hrel
    clear HR2
    by_cases hlt : k < n
    · have HSr := hide (HS2.out.out hn0 hkept)
      obtain ⟨i0, i1, i2⟩ := HSr.out.im3 0 rfl
      obtain ⟨j0, j1, j2⟩ := HSr.out.im3 2 rfl
      obtain ⟨ba, off, rfl, hz⟩ := (HP.out.below HSr.out.below).at hlt
      obtain ⟨⟨y', hy', _⟩, fr⟩ := hpart k hlt
      have hvb := winV_bd h3 (f k)
      have hpbd := winP_bd h3 (f k)
      have cm := l1Min_any hi (f k)
      have cM := l1Max_any lo (min hi (f k))
      have HV : Hid (winV lo hi (f k) = winF f lo hi k) := rfl
      have hPe : max lo (min hi (f k)) = winP lo hi (f k) := rfl
      rw [hPe] at cM
      obtain ⟨V, hV⟩ : ∃ V, V = winV lo hi (f k) := ⟨_, rfl⟩
      obtain ⟨p, hp⟩ : ∃ p, p = winP lo hi (f k) := ⟨_, rfl⟩
      obtain ⟨D, hD⟩ : ∃ D, D = p - lo := ⟨_, rfl⟩
      obtain ⟨E, hE⟩ : ∃ E, E = 255 * D := ⟨_, rfl⟩
      obtain ⟨G, hG⟩ : ∃ G, G = hi - lo := ⟨_, rfl⟩
      have hVE : E.tdiv G = V := by rw [hV, hE, hG, hD, hp]; rfl
      rw [← hV] at hvb HV
      rw [← hp] at hpbd cM
      have w1 : IntKind.i64.wrap (p - lo) = D := by rw [IntKind.wrap_i64]; omega
      have w2' : IntKind.i64.wrap (255 * D) = E := by rw [IntKind.wrap_i64]; omega
      have w3 : IntKind.i64.wrap (hi - lo) = G := by rw [IntKind.wrap_i64]; omega
      have w4 : IntKind.i64.wrap (E.tdiv G) = V := by rw [IntKind.wrap_i64, hVE]; omega
      have hG0 : (G == 0) = false := by simp; omega
      have hG1 : ¬ G = 0 := by omega
      have HW : Hid (wrap64 V = V) := by show _ = _; unfold wrap64; omega
      have HPn := hide (hpart.step hlt V HV.out)
      have HKn := hide (hkept.setCell (a := ⟨B, k, none⟩) rfl (.int .i64 V))
      clear hvb hpbd HV hPe hV hp hD hE hG HSr hpart hkept HQ
      generalize min hi (f k) = mi at *
      generalize f k = x at *
      go_wp2_with fail
      refine (cm _).mono ?_
      rintro e w5 ⟨rfl, rfl⟩
      go_wp2_with fail
      refine (cM _).mono ?_
      rintro e w6 ⟨rfl, rfl⟩
      clear cm cM
      go_upto_region 8 with fail
      go_region_with (fail)
      all_goals
        clear i0 i1 i2 j0 j1 j2 hz hy' fr w1 w2' w3 w4 hG0 hG1 hVE
        go_wp2_with fail
        refine ⟨⟨k + 1, by omega, rfl, ?_, ?_⟩, by simp [intOf]; omega⟩
        · first | exact HKn.out.drew | (rw [HW.out]; exact HKn.out.drew)
        · first | exact HPn.out.drew | (rw [HW.out]; exact HPn.out.drew)
    · obtain rfl : k = n := by omega
      have HSe := hide (HS2.out.mark0 hn0 hkept hpart.row.v)
      clear hkept hpart HS2 HP
      obtain ⟨i0, i1, i2⟩ := HSe.out.im3 0 rfl
      obtain ⟨z0, z1, z2⟩ := HSe.out.im3 1 rfl
      obtain ⟨e0, e1, e2⟩ := HSe.out.fr3 1 rfl
      have HE := hide ((St.fill3' (L1 := [_]) HSe.out (.int .i64 W) (.int .i64 H) (.slice (some ⟨B, 0, none⟩) k k)).imR W H k)
      rw [← HQ.out] at HE
      clear HSe HQ
      go_wp2_with fail
      exact bodyPost_ret (v := im W H (some ⟨B, 0, none⟩) k k) (by simp [results, Try.results61, go_sem, z0, z1, z2]) rfl HE.out

end Go.Proofs.Ytjkceonalfohpaa
