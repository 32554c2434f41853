/- The law on FromRuns, walked. -/
import Derived.Test.YtjkceonalfohpaaFru
namespace Go.Proofs.Ytjkceonalfohpaa
open Go.RowKit

set_option maxRecDepth 100000 in
set_option maxHeartbeats 4000000 in
theorem fnExactFromRuns_walk (x0 : Int) (x1 : Int) (a2 : Option Addr) (n2 cap2 : Nat) (f2 : Nat → Int) (hl2 : n2 ≤ maxLen) (w : World) (h2 : Px a2 (n2) f2 w) :
    Calls Try.prog 16 #[.int .i64 x0, .int .i64 x1, .slice a2 n2 cap2] w fun e w' => e = .returned (.bool true) ∧ Below w.heap.size w w' := by
  unfold maxLen at hl2
  have HS0 := hide (St.start w)
  have HP2 := hide h2
  clear h2
  by_cases hb2 : (1048576 : Int) < n2
  · have HB := hide HS0.out.below
    clear hl2
    go_enter Try.func16, Try.ntmps16
    go_wp2_with fail
    go_ret
    exact ⟨rfl, HB.out⟩
  have hL2 : n2 ≤ 1048576 := by omega
  have cT2 := fun w' h => toInts_any a2 n2 cap2 f2 hL2 w' h
  have cA2 := fun a1 a2 => eqInts_b a1 a2 n2 n2 n2 f2 hL2
  have cS := fun b2 w' h2 => specFromRuns_any x0 x1 b2 n2 n2 f2 hL2 w' h2
  have cI := fun b2 w' h2 => implFromRuns_any x0 x1 b2 n2 n2 f2 hL2 w' h2
  unfold ImRB at cS cI
  have hrn : fruN x0 x1 n2 f2 ≤ 1048576 := fruN_le _ _ _ _
  have cM2 := fun a' b => mark_any a' b n2 n2 f2 (1) (by omega) (by omega) hL2
  have qm : ¬ 1 + (n2 : Int) < 0 := by omega
  generalize fruW x0 x1 n2 f2 = rW at *
  generalize fruH x0 x1 n2 f2 = rH at *
  generalize fruN x0 x1 n2 f2 = rN at *
  generalize rbit f2 n2 = s at *
  generalize fruB x0 x1 n2 f2 = rB at *
  clear hl2
  have qb : (rB != rB) = false := by simp
  have cE := fun x y c1 c2 w' h h' => eqImage_any rW rH x y rN c1 c2 s hrn w' h h'
  have cN := fun x b c1 => markImage_any rW rH x b rN c1 s 1 (by omega) (by omega) hrn
  have cH := fun x b c1 => heldImage_any rW rH x b rN c1 1 (by omega) (by omega) hrn
  have q0 : ¬ 1 + (rN : Int) < 0 := by omega
  have q1 : (1 + (rN : Int) != 1 + (rN : Int)) = false := by simp
  go_enter Try.func16, Try.ntmps16
  go_wp2_with fail
  refine (cT2 _ (HP2.out.below HS0.out.below)).mono ?_
  rintro e v1 ⟨rfl, hr, hb, -⟩
  have HS1 := hide (HS0.out.own hb hr.v (.inr (Nat.le_refl _)))
  clear HS0 hb hr
  have p2 := (HS1.out.nthO 0 rfl).px
  go_wp2_with fail
  refine (cS _ _ p2).mono ?_
  rintro e v2 ⟨ra2, rc2, rb2, rfl, ho, h1, hb⟩
  have HS2 := hide (HS1.out.own hb ho.v h1)
  clear HS1 hb ho h1 p2  cS
  have HS3 := hide (HS2.out.box [.int .i64 rW, .int .i64 rH, .slice ra2 rN rc2] 39)
  generalize hx : World.alloc _ (.cells [.int .i64 rW, .int .i64 rH, .slice ra2 rN rc2].toArray 39) = v3 at HS3
  have hy : World.alloc _ (.cells #[.int .i64 rW, .int .i64 rH, .slice ra2 rN rc2] 39) = v3 := hx
  clear hx HS2
  go_wp2_with fail
  refine (cT2 _ (HP2.out.below HS3.out.below)).mono ?_
  rintro e v4 ⟨rfl, hr, hb, -⟩
  have HS4 := hide (HS3.out.own hb hr.v (.inr (Nat.le_refl _)))
  clear HS3 hb hr
  have p2 := (HS4.out.nthO 0 rfl).px
  go_wp2_with fail
  refine (cI _ _ p2).mono ?_
  rintro e v5 ⟨ra4, rc4, rb4, rfl, ho, h1, hb⟩
  have HS5 := hide (HS4.out.own hb ho.v h1)
  clear HS4 hb ho h1 p2
  have HS6 := hide (HS5.out.box [.int .i64 rW, .int .i64 rH, .slice ra4 rN rc4] 39)
  generalize hx : World.alloc _ (.cells [.int .i64 rW, .int .i64 rH, .slice ra4 rN rc4].toArray 39) = v6 at HS6
  have hy : World.alloc _ (.cells #[.int .i64 rW, .int .i64 rH, .slice ra4 rN rc4] 39) = v6 := hx
  clear hx HS5
  obtain ⟨i0, i1, i2⟩ := HS6.out.im3 0 rfl
  obtain ⟨j0, j1, j2⟩ := HS6.out.im3 1 rfl
  have pA := (HS6.out.nthO 0 rfl).px
  have pB := (HS6.out.nthO 2 rfl).px
  go_wp2_with fail
  refine (cE _ _ _ _ _ pA pB).mono ?_
  rintro e v7 ⟨rfl, hb⟩
  have HS7 := hide (HS6.out.next hb)
  clear HS6 hb pA pB i0 i1 i2 j0 j1 j2
  go_wp2_with fail
  refine (cT2 _ (HP2.out.below HS7.out.below)).mono ?_
  rintro e v8 ⟨rfl, hr, hb, -⟩
  have pB := hr.px
  have HS8 := hide (HS7.out.next hb)
  clear HS7 hb hr
  have pA := (HS8.out.nthO 1 rfl).px
  go_wp2_with fail
  refine (cA2 _ _ _ pA pB).mono ?_
  rintro e v9 ⟨rfl, hb⟩
  have HS9 := hide (HS8.out.next hb)
  clear HS8 hb pA pB
  go_wp2_with fail
  refine (cM2 _ _ _ (HS9.out.nthO 1 rfl).bk.i).mono ?_
  rintro e v10 ⟨rfl, ho, hk, -⟩
  have HS10 := hide (HS9.out.mark (O1 := [_]) hk ho.v)
  clear HS9 hk ho cM2
  obtain ⟨i0, i1, i2⟩ := HS10.out.im3 0 rfl
  obtain ⟨j0, j1, j2⟩ := HS10.out.im3 1 rfl
  have pA := (HS10.out.nthO 0 rfl).px
  have pB := (HS10.out.nthO 2 rfl).px
  go_wp2_with fail
  refine (cE _ _ _ _ _ pA pB).mono ?_
  rintro e v11 ⟨rfl, hb⟩
  have HS11 := hide (HS10.out.next hb)
  clear HS10 hb pA pB i0 i1 i2 j0 j1 j2
  obtain ⟨i0, i1, i2⟩ := HS11.out.im3 0 rfl
  go_wp2_with fail
  refine (cN _ _ _ _ (HS11.out.nthO 0 rfl).bk.i).mono ?_
  rintro e v12 ⟨rfl, ho, hk⟩
  have HS12 := hide (HS11.out.mark (O1 := []) hk ho.v)
  clear HS11 hk ho i0 i1 i2
  obtain ⟨i0, i1, i2⟩ := HS12.out.im3 0 rfl
  go_wp2_with fail
  refine (cH _ _ _ _ (HS12.out.nthO 0 rfl).i).mono ?_
  rintro e v13 ⟨rfl, hb⟩
  have HS13 := hide (HS12.out.next hb)
  clear HS12 hb i0 i1 i2
  go_wp2_with fail
  refine (cT2 _ (HP2.out.below HS13.out.below)).mono ?_
  rintro e v14 ⟨rfl, hr, hb, -⟩
  have HS14 := hide (HS13.out.own hb hr.v (.inr (Nat.le_refl _)))
  clear HS13 hb hr
  have p2 := (HS14.out.nthO 0 rfl).px
  go_wp2_with fail
  refine (cI _ _ p2).mono ?_
  rintro e v15 ⟨ra6, rc6, rb6, rfl, ho, h1, hb⟩
  have HS15 := hide (HS14.out.own hb ho.v h1)
  clear HS14 hb ho h1 p2  cI
  have HS16 := hide (HS15.out.box [.int .i64 rW, .int .i64 rH, .slice ra6 rN rc6] 39)
  generalize hx : World.alloc _ (.cells [.int .i64 rW, .int .i64 rH, .slice ra6 rN rc6].toArray 39) = v16 at HS16
  have hy : World.alloc _ (.cells #[.int .i64 rW, .int .i64 rH, .slice ra6 rN rc6] 39) = v16 := hx
  clear hx HS15
  obtain ⟨i0, i1, i2⟩ := HS16.out.im3 0 rfl
  obtain ⟨j0, j1, j2⟩ := HS16.out.im3 2 rfl
  have pA := (HS16.out.nthO 0 rfl).px
  have pB := (HS16.out.nthO 4 rfl).px
  go_wp2_with fail
  refine (cE _ _ _ _ _ pA pB).mono ?_
  rintro e v17 ⟨rfl, hb⟩
  have HS17 := hide (HS16.out.next hb)
  clear HS16 hb pA pB i0 i1 i2 j0 j1 j2
  obtain ⟨i0, i1, i2⟩ := HS17.out.im3 1 rfl
  go_wp2_with fail
  refine (cH _ _ _ _ (HS17.out.nthO 2 rfl).i).mono ?_
  rintro e v18 ⟨rfl, hb⟩
  have HS18 := hide (HS17.out.next hb)
  clear HS17 hb i0 i1 i2
  have HB := hide HS18.out.below
  clear HS18
  go_wp2_with fail
  go_ret
  exact ⟨rfl, HB.out⟩

end Go.Proofs.Ytjkceonalfohpaa
