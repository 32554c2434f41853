/- The law on Pieces, walked. -/
import Derived.Test.YtoomnfjcbdghgaaPcs
import Derived.Test.YtoomnfjcbdghgaaSmp
namespace Go.Proofs.Ytoomnfjcbdghgaa
open Go.RowKit

set_option maxRecDepth 100000 in
set_option maxHeartbeats 4000000 in
theorem fnExactPieces_walk (id : Int) (s : ByteArray) (z : Int) (w : World) :
    Calls Try.prog 9 #[.int .i64 id, .string s, .int .i64 z] w fun e w' => e = .returned (.bool true) ∧ Below w.heap.size w w' := by
  have HS0 := hide (St.start w)
  by_cases hb0 : (1048576 : Int) < s.size
  · have HB := hide HS0.out.below
    go_enter Try.func9, Try.ntmps9
    go_wp2_with fail
    go_ret
    exact ⟨rfl, HB.out⟩
  have cS := fun w' => specPieces_any id s z (by omega) w'
  have cI := fun w' => implPieces_any id s z (by omega) w'
  unfold PtR at cS cI
  have hrn : pcN id s z ≤ 64 := pcN_le _ _ _
  generalize pcN id s z = rN at *
  generalize pcE id s z = E at *
  have cE := fun a1 a2 c1 c2 => eqPartS_any a1 a2 rN c1 c2 E (by omega)
  have cN := fun a' b c1 => markPartS_any a' b rN c1 (FPart E) (by omega) 1 (by omega) (by omega)
  have cH := fun a' c1 => heldPartS_any a' rN c1 (by omega) 1 (by omega) (by omega)
  have q0 : ¬ 1 + 4 * (rN : Int) < 0 := by omega
  have q1 : (1 + 4 * (rN : Int) != 1 + 4 * (rN : Int)) = false := by simp
  go_enter Try.func9, Try.ntmps9
  go_wp2_with fail
  refine (cS _).mono ?_
  rintro e v2 ⟨ra2, rc2, rb2, rfl, ho, h1, hb⟩
  have HS2 := hide (HS0.out.own hb ho h1)
  clear HS0 hb ho h1 cS
  go_wp2_with fail
  refine (cI _).mono ?_
  rintro e v4 ⟨ra4, rc4, rb4, rfl, ho, h1, hb⟩
  have HS4 := hide (HS2.out.own hb ho h1)
  clear HS2 hb ho h1
  have pA := (HS4.out.nthO 0 rfl).pxG
  have pB := (HS4.out.nthO 1 rfl).pxG
  go_wp2_with fail
  refine (cE _ _ _ _ _ pA pB).mono ?_
  rintro e v5 ⟨rfl, hb⟩
  have HS5 := hide (HS4.out.next hb)
  clear HS4 hb pA pB
  go_wp2_with fail
  refine (cN _ _ _ _ (HS5.out.nthO 0 rfl).bk).mono ?_
  rintro e v10 ⟨rfl, ho, hk⟩
  have HS10 := hide (HS5.out.mark (O1 := []) hk ho)
  clear HS5 hk ho
  have pA := (HS10.out.nthO 0 rfl).pxG
  go_wp2_with fail
  refine (cH _ _ _ pA).mono ?_
  rintro e v11 ⟨rfl, hb⟩
  have HS11 := hide (HS10.out.next hb)
  clear HS10 hb pA
  go_wp2_with fail
  refine (cI _).mono ?_
  rintro e v13 ⟨ra6, rc6, rb6, rfl, ho, h1, hb⟩
  have HS12 := hide (HS11.out.own hb ho h1)
  clear HS11 hb ho h1 cI
  have pA := (HS12.out.nthO 0 rfl).pxG
  have pB := (HS12.out.nthO 2 rfl).pxG
  go_wp2_with fail
  refine (cE _ _ _ _ _ pA pB).mono ?_
  rintro e v14 ⟨rfl, hb⟩
  have HS13 := hide (HS12.out.next hb)
  clear HS12 hb pA pB
  have pA := (HS13.out.nthO 1 rfl).pxG
  go_wp2_with fail
  refine (cH _ _ _ pA).mono ?_
  rintro e v15 ⟨rfl, hb⟩
  have HB := hide (HS13.out.next hb).below
  clear HS13 pA hb
  go_wp2_with fail
  go_ret
  exact ⟨rfl, HB.out⟩

end Go.Proofs.Ytoomnfjcbdghgaa
