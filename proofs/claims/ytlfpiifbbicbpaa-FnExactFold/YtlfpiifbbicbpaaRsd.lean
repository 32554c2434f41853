/- Residues of an image: the specification and the program. -/
import Derived.Test.YtlfpiifbbicbpaaHom
import Derived.Test.YtlfpiifbbicbpaaMod
namespace Go.Proofs.Ytlfpiifbbicbpaa
open Go.RowKit

/-- the residues of numbers -/
def resF (f : Nat → Int) (k : Nat) : Int := res (f k)

abbrev W2 (w : World) (W H : Int) (s : Value) : World := (w.alloc (.cells #[.int .i64 W, .int .i64 H, s] 32)).alloc (.cells #[.int .i64 0, .int .i64 0, .slice none 0 0] 32)
theorem St.two (w : World) (W H : Int) (s : Value) : St w [(w.heap.size + 1, [.int .i64 0, .int .i64 0, .slice none 0 0]), (w.heap.size, [.int .i64 W, .int .i64 H, s])] [] (W2 w W H s) :=
  (((St.start w).box [.int .i64 W, .int .i64 H, s] 32).box' [.int .i64 0, .int .i64 0, .slice none 0 0] 32 (by simp))

theorem okB_len {W H : Int} {n : Nat} {f : Nat → Int} (h : okB W H n f = true) : 1 ≤ n ∧ n ≤ 4096 ∧ W * H = (n : Int) := by
  obtain ⟨q1, q2, q3, _⟩ := okB_parts h
  obtain ⟨p1, p2⟩ := prod_bounds q1 q2
  exact ⟨by omega, by omega, q3.symm⟩

set_option maxRecDepth 100000 in
set_option maxHeartbeats 1000000 in
theorem specResidues_any (W H : Int) (a : Option Addr) (n cap : Nat) (f : Nat → Int) (hl : n ≤ 1048576) (w : World) (h : Px a n f w) :
    Calls Try.prog 18 #[im W H a n cap] w (ImR (if okB W H n f = true then W else 0) (if okB W H n f = true then H else 0) (if okB W H n f = true then n else 0) (resF f) w) := by
  have HS0 := hide (St.two w W H (.slice a n cap))
  have c := specOk_any W H a n cap f hl _ (h.below HS0.out.below)
  cases hq : okB W H n f
  · rw [hq] at c
    clear hq h
    go_enter Try.func18, Try.ntmps18
    go_wp2_with fail
    refine c.mono ?_
    rintro e w1 ⟨rfl, hb⟩
    have HS1 := hide (HS0.out.next hb)
    obtain ⟨z0, z1, z2⟩ := HS1.out.im3 0 rfl
    obtain ⟨e0, e1, e2⟩ := HS1.out.fr3 0 rfl
    clear c hb HS0
    go_wp2_with fail
    exact bodyPost_ret (v := im 0 0 none 0 0) (by simp [results, Try.results18, go_sem, z0, z1, z2]) rfl ((HS1.out.fill3 _ _ _).imN _)
  · obtain ⟨n1, n2, n3⟩ := okB_len hq
    have hnew := l2New_any W H n n3 n2
    have HP := hide h
    rw [hq] at c
    simp only [if_true]
    clear hq h n3
    go_enter Try.func18, Try.ntmps18
    go_wp2_with fail
    refine c.mono ?_
    rintro e w1 ⟨rfl, hb⟩
    have HS1 := hide (HS0.out.next hb)
    obtain ⟨i0, i1, i2⟩ := HS1.out.im3 1 rfl
    clear c hb HS0
    go_wp2_with fail
    refine (hnew _).mono ?_
    rintro e w2 ⟨rfl, hr, hb, hs⟩
    have HS2 := hide ((HS1.out.own hb hr.v (.inr (by omega))).box [.int .i64 W, .int .i64 H, .slice (some ⟨w1.heap.size + 1, 0, none⟩) n n] 32)
    have HR2 := hide (hr.below (bnew w2 (.cells #[.int .i64 W, .int .i64 H, .slice (some ⟨w1.heap.size + 1, 0, none⟩) n n] 32)) hs)
    have HL := hide hs
    generalize hB : w1.heap.size + 1 = B at *
    clear hnew hr hb HS1 i0 i1 i2 hs
    obtain ⟨b, off, rfl, hblt⟩ := HP.out.lt (by omega)
    go_wp2_with fail
    generalize hX : w2.alloc (.cells #[.int .i64 W, .int .i64 H, .slice (some ⟨B, 0, none⟩) n n] 32) = wX at *
    go_loopw [4] (fun i wr => ∃ k : Nat, k ≤ n ∧ i = .int .i64 k ∧ Kept B wX wr ∧ Part B n k (resF f) wr) (fun i _ => n - (intOf i).toNat)
    case atStart => exact ⟨0, by omega, rfl, Kept.refl _ _, HR2.out.part⟩
    case round =>
      obtain ⟨k, hk, rfl, hkept, hpart⟩ := hrel
      have HSr := hide (HS2.out.out (by omega) hkept)
      obtain ⟨i0, i1, i2⟩ := HSr.out.im3 2 rfl
      obtain ⟨l0, l1, l2⟩ := HSr.out.im3 0 rfl
      by_cases hlt : k < n
      · obtain ⟨_, _, heq, hz⟩ := (HP.out.below HSr.out.below).at hlt
        cases heq
        obtain ⟨⟨y, hy, _⟩, fr⟩ := hpart k hlt
        have cM := l1Mod_res (f k)
        have HPt := hide (hpart.step hlt (res (f k)) rfl).drew
        have HKt := hide (hkept.setCell (a := ⟨B, k, none⟩) rfl (.int .i64 (res (f k)))).drew
        clear hpart hkept HP HS2 HR2
        generalize f k = y0 at *
        generalize res y0 = y1 at *
        go_upto_region 7 with fail
        go_region_with (go_at_call 42; refine (cM _).mono ?_; rintro e w3 ⟨rfl, rfl⟩)
        all_goals
          generalize (wr.setCell ⟨B, k, none⟩ (.int .i64 y1)).drew = wz at *
          clear hz hy fr i0 i1 i2 l0 l1 l2 HSr cM
          go_wp2_with fail
          exact ⟨⟨k + 1, by omega, rfl, HKt.out, HPt.out⟩, by simp [intOf]; omega⟩
      · obtain rfl : k = n := by omega
        have HSe := hide (HS2.out.mark0 (by omega) hkept hpart.row.v)
        obtain ⟨z0, z1, z2⟩ := HSe.out.im3 1 rfl
        obtain ⟨e0, e1, e2⟩ := HSe.out.fr3 1 rfl
        clear hpart hkept HP HS2 HR2 HSr i0 i1 i2
        go_wp2_with fail
        exact bodyPost_ret (v := im W H (some ⟨B, 0, none⟩) k k) (by simp [results, Try.results18, go_sem, z0, z1, z2]) rfl ((St.fill3' (L1 := [_]) HSe.out _ _ _).imR W H k)

set_option maxRecDepth 100000 in
set_option maxHeartbeats 1000000 in
theorem implResidues_any (W H : Int) (a : Option Addr) (n cap : Nat) (f : Nat → Int) (hl : n ≤ 1048576) (w : World) (h : Px a n f w) :
    Calls Try.prog 19 #[im W H a n cap] w (ImR (if okB W H n f = true then W else 0) (if okB W H n f = true then H else 0) (if okB W H n f = true then n else 0) (resF f) w) := by
  have HS0 := hide (St.two w W H (.slice a n cap))
  have c := implOk_any W H a n cap f hl _ (h.below HS0.out.below)
  cases hq : okB W H n f
  · rw [hq] at c
    clear hq h
    go_enter Try.func19, Try.ntmps19
    go_wp2_with fail
    refine c.mono ?_
    rintro e w1 ⟨rfl, hb⟩
    have HS1 := hide (HS0.out.next hb)
    obtain ⟨z0, z1, z2⟩ := HS1.out.im3 0 rfl
    obtain ⟨e0, e1, e2⟩ := HS1.out.fr3 0 rfl
    clear c hb HS0
    go_wp2_with fail
    exact bodyPost_ret (v := im 0 0 none 0 0) (by simp [results, Try.results19, go_sem, z0, z1, z2]) rfl ((HS1.out.fill3 _ _ _).imN _)
  · obtain ⟨n1, n2, n3⟩ := okB_len hq
    have HP := hide h
    rw [hq] at c
    simp only [if_true]
    clear hq h n3
    obtain ⟨b, off, rfl, _⟩ := HP.out.lt (by omega)
    go_enter Try.func19, Try.ntmps19
    go_wp2_with fail
    refine c.mono ?_
    rintro e w1 ⟨rfl, hb⟩
    have HS1 := hide (HS0.out.next hb)
    obtain ⟨i0, i1, i2⟩ := HS1.out.im3 1 rfl
    obtain ⟨cur, hcur, hmk⟩ := make_cap n (by omega) w1
    have HO0 : Hid ((w1.alloc (.cells cur 2)).ownsRow w1.heap.size 2 1 (.slice (some ⟨w1.heap.size, 0, none⟩) 0 n) 0 []) := World.ownsRow_made w1 cur n (Nat.le_refl _) (by unfold maxLen; omega) hcur
    have HB0 : Hid (Below w1.heap.size w1 (w1.alloc (.cells cur 2))) := bnew _ _
    have HSm := hide (HS1.out.next HB0.out)
    obtain ⟨j0, j1, j2⟩ := HSm.out.im3 1 rfl
    clear c hb HS0 hcur HSm
    go_wp2_with fail
    clear i0 i1 i2 j0 j1 j2
    go_loopw [3, 5, 17] (fun v _ i wr => ∃ k : Nat, k ≤ n ∧ i = .int .i64 k ∧ wr.ownsRow w1.heap.size 2 1 v k (ints (fl (resF f) k)) ∧ Below w1.heap.size w1 wr) (fun _ _ i _ => n - (intOf i).toNat)
    case atStart => exact ⟨0, by omega, rfl, HO0.out, HB0.out⟩
    case round =>
      obtain ⟨k, hk, rfl, ho, hb⟩ := hrel
      clear HB0 HO0 hmk
      by_cases hlt : k < n
      · obtain ⟨_, _, heq, hz⟩ := (HP.out.below (HS1.out.next hb).below).at hlt
        cases heq
        have cM := residue_any (f k)
        have HO := hide ho
        have HB := hide hb
        have HS := hide hb.size
        have HL : Hid (k ≤ 1048576) := by show _ ≤ _; omega
        clear ho hb HP
        go_wp2_with fail
        refine (cM _).mono ?_
        rintro e wr ⟨rfl, rfl⟩
        clear cM
        obtain ⟨Z, hZ⟩ : ∃ Z, Z = res (f k) := ⟨_, rfl⟩
        have HZ : Hid (Z = resF f k) := hZ
        rw [← hZ]
        clear hZ
        go_wp2_with (refine grow1 _ rfl _ _ rfl w1.heap.size _ k (resF f) rfl w1 HO.out HB.out HS.out Z HZ.out rfl HL.out ?_)
        intro v' w' ho' hb' hs'
        have HO' := hide ho'
        have HB' := hide hb'
        clear HO HB HS ho' hb' hs' hz
        go_wp2_with fail
        exact ⟨⟨k + 1, by omega, rfl, HO'.out, HB'.out⟩, by simp [intOf]; omega⟩
      · obtain rfl : k = n := by omega
        obtain ⟨a', cap', b', rfl, ow, hB⟩ := ow_fl ho
        have HSe := hide (HS1.out.own hb ow.v hB)
        obtain ⟨i0, i1, i2⟩ := HSe.out.im3 1 rfl
        obtain ⟨z0, z1, z2⟩ := HSe.out.im3 0 rfl
        obtain ⟨e0, e1, e2⟩ := HSe.out.fr3 0 rfl
        clear ho hb ow hB HS1 HP
        go_wp2_with fail
        exact bodyPost_ret (v := im W H a' k cap') (by simp [results, Try.results19, go_sem, z0, z1, z2]) rfl ((HSe.out.fill3 _ _ _).imR W H cap')

end Go.Proofs.Ytlfpiifbbicbpaa
