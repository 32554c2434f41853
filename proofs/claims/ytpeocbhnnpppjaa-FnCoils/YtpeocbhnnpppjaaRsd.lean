/- Residues of an image: the specification and the program. -/
import Derived.Test.YtpeocbhnnpppjaaHom
import Derived.Test.YtpeocbhnnpppjaaMod
namespace Go.Proofs.Ytpeocbhnnpppjaa
open Go.RowKit

/-- the residues of numbers -/
def resF (f : Nat → Int) (k : Nat) : Int := res (f k)

abbrev W2 (w : World) (W H : Int) (s : Value) : World := (w.alloc (.cells #[.int .i64 W, .int .i64 H, s] 26)).alloc (.cells #[.int .i64 0, .int .i64 0, .slice none 0 0] 26)
theorem St.two (w : World) (W H : Int) (s : Value) : St w [(w.heap.size + 1, [.int .i64 0, .int .i64 0, .slice none 0 0]), (w.heap.size, [.int .i64 W, .int .i64 H, s])] [] (W2 w W H s) :=
  (((St.start w).box [.int .i64 W, .int .i64 H, s] 26).box' [.int .i64 0, .int .i64 0, .slice none 0 0] 26 (by simp))

theorem okB_len {W H : Int} {n : Nat} {f : Nat → Int} (h : okB W H n f = true) : 1 ≤ n ∧ n ≤ 4096 ∧ W * H = (n : Int) := by
  obtain ⟨q1, q2, q3, _⟩ := okB_parts h
  obtain ⟨p1, p2⟩ := prod_bounds q1 q2
  exact ⟨by omega, by omega, q3.symm⟩

set_option maxRecDepth 100000 in
set_option maxHeartbeats 1000000 in
theorem specResidues_any (W H : Int) (a : Option Addr) (n cap : Nat) (f : Nat → Int) (hl : n ≤ 1048576) (w : World) (h : Px a n f w) :
    Calls Try.prog 10 #[im W H a n cap] w (ImR (if okB W H n f = true then W else 0) (if okB W H n f = true then H else 0) (if okB W H n f = true then n else 0) (resF f) w) := by
  have HS0 := hide (St.two w W H (.slice a n cap))
  have c := specOk_any W H a n cap f hl _ (h.below HS0.out.below)
  cases hq : okB W H n f
  · rw [hq] at c
    clear hq h
    go_enter Try.func10, Try.ntmps10
    go_wp2_with fail
    refine c.mono ?_
    rintro e w1 ⟨rfl, hb⟩
    have HS1 := hide (HS0.out.next hb)
    obtain ⟨z0, z1, z2⟩ := HS1.out.im3 0 rfl
    obtain ⟨e0, e1, e2⟩ := HS1.out.fr3 0 rfl
    clear c hb HS0
    go_wp2_with fail
    exact bodyPost_ret (v := im 0 0 none 0 0) (by simp [results, Try.results10, go_sem, z0, z1, z2]) rfl ((HS1.out.fill3 _ _ _).imN _)
  · obtain ⟨n1, n2, n3⟩ := okB_len hq
    have hnew := l2New_any W H n n3 n2
    have HP := hide h
    rw [hq] at c
    simp only [if_true]
    clear hq h n3
    go_enter Try.func10, Try.ntmps10
    go_wp2_with fail
    refine c.mono ?_
    rintro e w1 ⟨rfl, hb⟩
    have HS1 := hide (HS0.out.next hb)
    obtain ⟨i0, i1, i2⟩ := HS1.out.im3 1 rfl
    clear c hb HS0
    go_wp2_with fail
    refine (hnew _).mono ?_
    rintro e w2 ⟨rfl, hr, hb, hs⟩
    have HS2 := hide ((HS1.out.own hb hr.v (.inr (by omega))).box [.int .i64 W, .int .i64 H, .slice (some ⟨w1.heap.size + 1, 0, none⟩) n n] 26)
    have HR2 := hide (hr.below (bnew w2 (.cells #[.int .i64 W, .int .i64 H, .slice (some ⟨w1.heap.size + 1, 0, none⟩) n n] 26)) hs)
    have HL := hide hs
    generalize hB : w1.heap.size + 1 = B at *
    clear hnew hr hb HS1 i0 i1 i2 hs
    obtain ⟨b, off, rfl, hblt⟩ := HP.out.lt (by omega)
    go_wp2_with fail
    generalize hX : w2.alloc (.cells #[.int .i64 W, .int .i64 H, .slice (some ⟨B, 0, none⟩) n n] 26) = wX at *
    go_loopw [4] (fun i wr => ∃ k : Nat, k ≤ n ∧ i = .int .i64 k ∧ Kept B wX wr ∧ Part B n k (resF f) wr) (fun i _ => n - (intOf i).toNat)
    case atStart => exact ⟨0, by omega, rfl, Kept.refl _ _, HR2.out.part⟩
    case round =>
      obtain ⟨k, hk, rfl, hkept, hpart⟩ := hrel
      have HSr := hide (HS2.out.out (by omega) hkept)
      obtain ⟨i0, i1, i2⟩ := HSr.out.im3 2 rfl
      obtain ⟨l0, l1, l2⟩ := HSr.out.im3 0 rfl
      by_cases hlt : k < n
      · obtain ⟨_, _, heq, hz⟩ := (HP.out.below HSr.out.below).at hlt
        cases heq
        obtain ⟨⟨y, hy, _⟩, fr⟩ := hpart k hlt
        have cM := l1Mod_res (f k)
        have HPt := hide (hpart.step hlt (res (f k)) rfl).drew
        have HKt := hide (hkept.setCell (a := ⟨B, k, none⟩) rfl (.int .i64 (res (f k)))).drew
        clear hpart hkept HP HS2 HR2
        generalize f k = y0 at *
        generalize res y0 = y1 at *
        go_upto_region 7 with fail
        go_region_with (go_at_call 22; refine (cM _).mono ?_; rintro e w3 ⟨rfl, rfl⟩)
        all_goals
          generalize (wr.setCell ⟨B, k, none⟩ (.int .i64 y1)).drew = wz at *
          clear hz hy fr i0 i1 i2 l0 l1 l2 HSr cM
          go_wp2_with fail
          exact ⟨⟨k + 1, by omega, rfl, HKt.out, HPt.out⟩, by simp [intOf]; omega⟩
      · obtain rfl : k = n := by omega
        have HSe := hide (HS2.out.mark0 (by omega) hkept hpart.row.v)
        obtain ⟨z0, z1, z2⟩ := HSe.out.im3 1 rfl
        obtain ⟨e0, e1, e2⟩ := HSe.out.fr3 1 rfl
        clear hpart hkept HP HS2 HR2 HSr i0 i1 i2
        go_wp2_with fail
        exact bodyPost_ret (v := im W H (some ⟨B, 0, none⟩) k k) (by simp [results, Try.results10, go_sem, z0, z1, z2]) rfl ((St.fill3' (L1 := [_]) HSe.out _ _ _).imR W H k)

end Go.Proofs.Ytpeocbhnnpppjaa
