/- FromRuns: the specification and the program. -/
import Derived.Test.YtipkfaajngabmaaRbs
import Derived.Test.YtipkfaajngabmaaImb
namespace Go.Proofs.Ytipkfaajngabmaa
open Go.RowKit

def fruB (W H : Int) (m : Nat) (r : Nat → Int) : Bool := inB W 1 64 && (inB H 1 64 && runB (W * H) m r)
def fruW (W H : Int) (m : Nat) (r : Nat → Int) : Int := if fruB W H m r = true then W else 0
def fruH (W H : Int) (m : Nat) (r : Nat → Int) : Int := if fruB W H m r = true then H else 0
def fruN (W H : Int) (m : Nat) (r : Nat → Int) : Nat := if fruB W H m r = true then (W * H).toNat else 0
theorem fruN_le (W H : Int) (m : Nat) (r : Nat → Int) : fruN W H m r ≤ 1048576 := by
  unfold fruN
  split
  · rename_i h
    unfold fruB at h
    simp only [Bool.and_eq_true] at h
    have := prod_bounds h.1 h.2.1
    omega
  · omega

set_option maxRecDepth 100000 in
set_option maxHeartbeats 4000000 in
theorem implFromRuns_any (W H : Int) (a : Option Addr) (m cap : Nat) (r : Nat → Int) (hl : m ≤ 1048576) (w : World) (h : Px a m r w) :
    Calls Try.prog 11 #[.int .i64 W, .int .i64 H, .slice a m cap] w (ImRB (fruW W H m r) (fruH W H m r) (fruN W H m r) (rbit r m) (fruB W H m r) w) := by
  have HSt := hide ((St.start w).box [.int .i64 0, .int .i64 0, .slice none 0 0] 26)
  have HP := hide h
  generalize hA : w.alloc (.cells [.int .i64 0, .int .i64 0, .slice none 0 0].toArray 26) = wA at HSt
  have hA' : w.alloc (.cells #[.int .i64 0, .int .i64 0, .slice none 0 0] 26) = wA := hA
  clear hA h
  obtain ⟨z0, z1, z2⟩ := HSt.out.im3 0 rfl
  obtain ⟨e0, e1, e2⟩ := HSt.out.fr3 0 rfl
  obtain ⟨Q, hQ⟩ : ∃ Q, Q = ImRB (fruW W H m r) (fruH W H m r) (fruN W H m r) (rbit r m) (fruB W H m r) w := ⟨_, rfl⟩
  rw [← hQ]
  have HQn : Hid (fruB W H m r = false → Q = ImRB 0 0 0 (rbit r m) false w) := fun e => by
    rw [hQ]; unfold fruW fruH fruN; rw [e]; rfl
  have HQy : Hid (fruB W H m r = true → Q = ImRB W H (W * H).toNat (rbit r m) true w) := fun e => by
    rw [hQ]; unfold fruW fruH fruN; rw [e]; rfl
  clear hQ
  have cW := isSide_any W
  have cH := isSide_any H
  have HE : Hid (fruB W H m r = false → Q (.returned (.tuple #[im 0 0 none 0 0, .bool false])) (((wA.setCell ⟨w.heap.size, 0, none⟩ (.int .i64 0)).setCell ⟨w.heap.size, 1, none⟩ (.int .i64 0)).setCell ⟨w.heap.size, 2, none⟩ (.slice none 0 0))) := fun e => by
    rw [HQn.out e]; exact (HSt.out.fill3 (.int .i64 0) (.int .i64 0) (.slice none 0 0)).imRN _
  cases hW : inB W 1 64
  · have HF := hide (HE.out (by unfold fruB; rw [hW]; rfl))
    rw [hW] at cW
    clear HE HQn HQy HP HSt hW cH
    go_enter Try.func11, Try.ntmps11
    go_wp2_with fail
    refine (cW _).mono ?_
    rintro e w1 ⟨rfl, rfl⟩
    go_wp2_with fail
    exact bodyPost_ret (v := .tuple #[im 0 0 none 0 0, .bool false]) (by simp [results, Try.results11, go_sem, z0, z1, z2]) rfl HF.out
  cases hH : inB H 1 64
  · have HF := hide (HE.out (by unfold fruB; rw [hH, hW]; rfl))
    rw [hW] at cW
    rw [hH] at cH
    clear HE HQn HQy HP HSt hW hH
    go_enter Try.func11, Try.ntmps11
    go_wp2_with fail
    refine (cW _).mono ?_
    rintro e w1 ⟨rfl, rfl⟩
    go_wp2_with fail
    refine (cH _).mono ?_
    rintro e w1 ⟨rfl, rfl⟩
    go_wp2_with fail
    exact bodyPost_ret (v := .tuple #[im 0 0 none 0 0, .bool false]) (by simp [results, Try.results11, go_sem, z0, z1, z2]) rfl HF.out
  have hp := prod_bounds hW hH
  have hB : fruB W H m r = runB (W * H) m r := by unfold fruB; rw [hW, hH]; rfl
  have cB := fun w' h => areRuns_any a m cap r hl (W * H) (by omega) (by omega) w' h
  have cX := fun w' e h => pixelsOfRuns_any a m cap r hl (W * H) (by omega) (by omega) e w' h
  unfold LsR at cX
  obtain ⟨n, hn⟩ : ∃ n, n = W * H := ⟨_, rfl⟩
  have wN : IntKind.i64.wrap (W * H) = n := by rw [IntKind.wrap_i64]; omega
  rw [hW] at cW
  rw [hH] at cH
  rw [hB, ← hn] at HQn HQy
  rw [← hn] at hp cB cX
  clear HE hW hH hB hn
  cases hR : runB n m r
  · rw [hR] at cB
    have HQ := hide (HQn.out hR)
    clear hR HQn HQy e0 e1 e2 z0 z1 z2
    go_enter Try.func11, Try.ntmps11
    go_wp2_with fail
    refine (cW _).mono ?_
    rintro e w1 ⟨rfl, rfl⟩
    go_wp2_with fail
    refine (cH _).mono ?_
    rintro e w1 ⟨rfl, rfl⟩
    go_wp2_with fail
    refine (cB _ (HP.out.below HSt.out.below)).mono ?_
    rintro e w2 ⟨rfl, rfl⟩
    have HS2 := HSt
    obtain ⟨z0, z1, z2⟩ := HS2.out.im3 0 rfl
    obtain ⟨e0, e1, e2⟩ := HS2.out.fr3 0 rfl
    have HF : Hid (Q (.returned (.tuple #[im 0 0 none 0 0, .bool false])) (((w2.setCell ⟨w.heap.size, 0, none⟩ (.int .i64 0)).setCell ⟨w.heap.size, 1, none⟩ (.int .i64 0)).setCell ⟨w.heap.size, 2, none⟩ (.slice none 0 0))) := by
      rw [HQ.out]; exact (HS2.out.fill3 (.int .i64 0) (.int .i64 0) (.slice none 0 0)).imRN _
    clear HS2 HSt HQ cB cW cH HP hA' cX
    go_wp2_with fail
    exact bodyPost_ret (v := .tuple #[im 0 0 none 0 0, .bool false]) (by simp [results, Try.results11, go_sem, z0, z1, z2]) rfl HF.out
  · rw [hR] at cB
    have HQ := hide (HQy.out hR)
    obtain ⟨hr1, hr2⟩ := runB_parts hR
    have cX := fun w' h => cX w' hr1 h
    rw [hr2] at cX
    clear hR hr1 hr2 HQn HQy e0 e1 e2 z0 z1 z2
    go_enter Try.func11, Try.ntmps11
    go_wp2_with fail
    refine (cW _).mono ?_
    rintro e w1 ⟨rfl, rfl⟩
    go_wp2_with fail
    refine (cH _).mono ?_
    rintro e w1 ⟨rfl, rfl⟩
    go_wp2_with fail
    refine (cB _ (HP.out.below HSt.out.below)).mono ?_
    rintro e w1 ⟨rfl, rfl⟩
    go_wp2_with fail
    refine (cX _ (HP.out.below HSt.out.below)).mono ?_
    rintro e w2 ⟨a', cp, b', rfl, ow, hB, hb⟩
    have HS2 := hide (HSt.out.own hb ow.v hB)
    obtain ⟨z0, z1, z2⟩ := HS2.out.im3 0 rfl
    obtain ⟨e0, e1, e2⟩ := HS2.out.fr3 0 rfl
    have HF : Hid (Q (.returned (.tuple #[im W H a' n.toNat cp, .bool true])) (((w2.setCell ⟨w.heap.size, 0, none⟩ (.int .i64 W)).setCell ⟨w.heap.size, 1, none⟩ (.int .i64 H)).setCell ⟨w.heap.size, 2, none⟩ (.slice a' n.toNat cp))) := by
      rw [HQ.out]; exact (HS2.out.fill3 (.int .i64 W) (.int .i64 H) (.slice a' n.toNat cp)).imRB _ _ _ _
    clear hb HS2 HSt HQ cB cW cH HP hA' ow hB cX
    generalize n.toNat = M at *
    go_wp2_with fail
    exact bodyPost_ret (v := .tuple #[im W H a' M cp, .bool true]) (by simp [results, Try.results11, go_sem, z0, z1, z2]) rfl HF.out

end Go.Proofs.Ytipkfaajngabmaa
