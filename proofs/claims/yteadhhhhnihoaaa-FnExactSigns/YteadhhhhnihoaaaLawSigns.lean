/- The law on Signs, walked. -/
import Derived.Test.YteadhhhhnihoaaaSgk
import Derived.Test.YteadhhhhnihoaaaSgs
import Derived.Test.YteadhhhhnihoaaaHom
namespace Go.Proofs.Yteadhhhhnihoaaa
open Go.RowKit

theorem LsR.ofL {w w' : World} {v : Value} {n : Nat} {L : List Int} (h : w'.ownsRow w.heap.size 2 1 v n (ints L)) (hb : Below w.heap.size w w') : LsR n (fun q => L.getD q 0) w (.returned v) w' := by
  by_cases hn : 0 < n
  · obtain ⟨a, cap, b, hv, ho, hB, _⟩ := ow_of_some h hn
    rw [Nat.mul_one] at ho
    exact ⟨a, cap, b, by rw [hv], ho, .inr hB, hb⟩
  · obtain ⟨hlen, hv | ⟨b, cap, cur, hv, _⟩⟩ := h
    · obtain ⟨rfl, rfl⟩ := hv
      exact ⟨_, _, 0, rfl, .inl (by omega), .inl (by omega), hb⟩
    · obtain rfl : n = 0 := by omega
      exact ⟨_, _, 0, by rw [hv], .inl rfl, .inl rfl, hb⟩
theorem LsR.ofLsL {w w' : World} {e : Ending} {L : List Int} (h : LsL L w e w') : LsR L.length (fun q => L.getD q 0) w e w' := by
  obtain ⟨v, rfl, ho, hb⟩ := h
  exact LsR.ofL ho hb

set_option maxRecDepth 100000 in
set_option maxHeartbeats 4000000 in
theorem fnExactSigns_walk (x0 : ByteArray) (w : World) :
    Calls Try.prog 5 #[.string x0] w fun e w' => e = .returned (.bool true) ∧ Below w.heap.size w w' := by
  have HS0 := hide (St.start w)
  by_cases hb0 : (1048576 : Int) < x0.size
  · have HB := hide HS0.out.below
    go_enter Try.func5, Try.ntmps5
    go_wp2_with fail
    go_ret
    exact ⟨rfl, HB.out⟩
  have cS := fun  w' => (specSigns_any x0 w').mono fun e w'' h => LsR.ofLsL h
  have cI := fun  w' => (implSigns_any x0 w').mono fun e w'' h => LsR.ofLsL h
  unfold LsR at cS cI
  have hrn : (if 4096 < x0.size then [] else sig 0 (bl x0)).length ≤ 1048576 := by
    have := sig_len _ 0 (bl x0) (Nat.le_refl _)
    rw [bl_len] at this
    split
    · simp
    · omega
  generalize (if 4096 < x0.size then [] else sig 0 (bl x0)) = RL at *
  generalize (fun q => RL.getD q 0) = s at *
  generalize RL.length = rN at *
  have cE := fun a1 a2 c1 c2 => eqInts_b a1 a2 rN c1 c2 s hrn
  have cN := fun a' b c1 => mark_any a' b rN c1 s 1 (by omega) (by omega) hrn
  have cH := fun a' b c1 => held_any a' b rN c1 1 (by omega) (by omega) hrn
  have q0 : ¬ 1 + (rN : Int) < 0 := by omega
  have q1 : (1 + (rN : Int) != 1 + (rN : Int)) = false := by simp
  go_enter Try.func5, Try.ntmps5
  go_wp2_with fail
  refine (cS  _ ).mono ?_
  rintro e v1 ⟨ra1, rc1, rb1, rfl, ho, h1, hb⟩
  have HS1 := hide (HS0.out.own hb ho.v h1)
  clear HS0 hb ho h1   cS
  go_wp2_with fail
  refine (cI  _ ).mono ?_
  rintro e v2 ⟨ra2, rc2, rb2, rfl, ho, h1, hb⟩
  have HS2 := hide (HS1.out.own hb ho.v h1)
  clear HS1 hb ho h1
  have pA := (HS2.out.nthO 0 rfl).px
  have pB := (HS2.out.nthO 1 rfl).px
  go_wp2_with fail
  refine (cE _ _ _ _ _ pA pB).mono ?_
  rintro e v3 ⟨rfl, hb⟩
  have HS3 := hide (HS2.out.next hb)
  clear HS2 hb pA pB
  go_wp2_with fail
  refine (cN _ _ _ _ (HS3.out.nthO 0 rfl).bk.i).mono ?_
  rintro e v5 ⟨rfl, ho, hk, -⟩
  have HS5 := hide (HS3.out.mark (O1 := []) hk ho.v)
  clear HS3 hk ho
  go_wp2_with fail
  refine (cH _ _ _ _ (HS5.out.nthO 0 rfl).i).mono ?_
  rintro e v6 ⟨rfl, rfl⟩
  go_wp2_with fail
  refine (cI  _ ).mono ?_
  rintro e v7 ⟨ra3, rc3, rb3, rfl, ho, h1, hb⟩
  have HS6 := hide (HS5.out.own hb ho.v h1)
  clear HS5 hb ho h1   cI
  have pA := (HS6.out.nthO 0 rfl).px
  have pB := (HS6.out.nthO 2 rfl).px
  go_wp2_with fail
  refine (cE _ _ _ _ _ pA pB).mono ?_
  rintro e v8 ⟨rfl, hb⟩
  have HS7 := hide (HS6.out.next hb)
  clear HS6 hb pA pB
  go_wp2_with fail
  refine (cH _ _ _ _ (HS7.out.nthO 1 rfl).i).mono ?_
  rintro e v9 ⟨rfl, rfl⟩
  have HB := hide HS7.out.below
  clear HS7
  go_wp2_with fail
  go_ret
  exact ⟨rfl, HB.out⟩

end Go.Proofs.Yteadhhhhnihoaaa
