/- Which points a shape has: the program. -/
import Derived.Test.YtadeajdjjcelhaaOut3
namespace Go.Proofs.Ytadeajdjjcelhaa
open Go.RowKit
set_option maxRecDepth 100000
set_option maxHeartbeats 2000000

/-- what stands in the two slots behind newOutline -/
def Made (K X Y A B C V : Int) (v o : Value) : Prop :=
  (shapeB K X Y A B C V = true ∧ v = outl K A B C ∧ o = .bool true) ∨ (shapeB K X Y A B C V = false ∧ o = .bool false)

theorem newOut_made {K X Y A B C V : Int} {e : Ending} (h : newOut K X Y A B C V e) : ∃ v o, e = .returned (.tuple #[v, o]) ∧ Made K X Y A B C V v o := by
  unfold newOut at h
  split at h
  · exact ⟨_, _, h, .inl ⟨‹_›, rfl, rfl⟩⟩
  · obtain ⟨v, rfl⟩ := h
    exact ⟨_, _, rfl, .inr ⟨Bool.eq_false_iff.mpr ‹_›, rfl⟩⟩

theorem nil95 (A B : Int) (w : World) : (nilAhead 220 96 (.agg #[.int .i64 A, .int .i64 B]) "loop.example/g00050/impl.has").run Try.prog w = .ok (some false) w := by kernel_rfl
theorem met95 (A B : Int) (w : World) : (method 220 96 (.agg #[.int .i64 A, .int .i64 B]) "loop.example/g00050/impl.has").run Try.prog w = .ok (82, .agg #[.int .i64 A, .int .i64 B]) w := by kernel_rfl
theorem nil96 (A B : Int) (w : World) : (nilAhead 220 97 (.agg #[.int .i64 A, .int .i64 B]) "loop.example/g00050/impl.has").run Try.prog w = .ok (some false) w := by kernel_rfl
theorem met96 (A B : Int) (w : World) : (method 220 97 (.agg #[.int .i64 A, .int .i64 B]) "loop.example/g00050/impl.has").run Try.prog w = .ok (83, .agg #[.int .i64 A, .int .i64 B]) w := by kernel_rfl
theorem nil98 (A B C : Int) (w : World) : (nilAhead 220 99 (.agg #[.int .i64 A, .int .i64 B, .int .i64 C]) "loop.example/g00050/impl.has").run Try.prog w = .ok (some false) w := by kernel_rfl
theorem met98 (A B C : Int) (w : World) : (method 220 99 (.agg #[.int .i64 A, .int .i64 B, .int .i64 C]) "loop.example/g00050/impl.has").run Try.prog w = .ok (84, .agg #[.int .i64 A, .int .i64 B, .int .i64 C]) w := by kernel_rfl
theorem nil100 (A B : Int) (w : World) : (nilAhead 220 101 (.agg #[.int .i64 A, .int .i64 B]) "loop.example/g00050/impl.has").run Try.prog w = .ok (some false) w := by kernel_rfl
theorem met100 (A B : Int) (w : World) : (method 220 101 (.agg #[.int .i64 A, .int .i64 B]) "loop.example/g00050/impl.has").run Try.prog w = .ok (85, .agg #[.int .i64 A, .int .i64 B]) w := by kernel_rfl

set_option maxHeartbeats 8000000 in
theorem implIns_any (K X Y A B C V x y : Int) (w : World) :
    Calls Try.prog 20 #[sh K X Y A B C V, .int .i64 x, .int .i64 y] w fun e w' => e = .returned (.bool (insideB K X Y A B C V x y)) ∧ Below w.heap.size w w' := by
  have cL := limits_any K
  have cN := newOutline_any K X Y A B C V
  have cP := isPoint_any x y
  have HB0 : Hid (Below w.heap.size w (w.alloc (shCells K X Y A B C V 33)).drew) := (bnew _ _).drew
  have HN0 : Hid (ShB w.heap.size K X Y A B C V (w.alloc (shCells K X Y A B C V 33)).drew) := (ShB.new _ _ _ _ _ _ _ _ _)
  go_enter Try.func20, Try.ntmps20
  go_upto_region 1 with fail
  go_cut [7, 8] (fun s7 s8 wc => Made K X Y A B C V s7 s8 ∧ ShB w.heap.size K X Y A B C V wc ∧ Below w.heap.size w wc)
  case first =>
    go_region_with (first
      | (go_at_call 52; (with_reducible refine (cL _).mono ?_); rintro e w1 ⟨rfl, hb1⟩; have HN1 : Hid (ShB w.heap.size K X Y A B C V w1) := HN0.out.below hb1; obtain ⟨s0, s1, s2, s3, s4, s5, s6⟩ := HN1.out)
      | (go_at_call 51; (with_reducible refine (cN _).mono ?_); rintro e w2 ⟨hn, hb2⟩; obtain ⟨v, o, rfl, hm⟩ := newOut_made hn; clear hn))
    all_goals
      go_wp2_with fail
      go_meet
      exact ⟨hm, HN1.out.below hb2, bnext (bnext HB0.out (Nat.le_refl _) hb1) (Nat.le_refl _) hb2⟩
  case rest =>
    obtain ⟨hm, hN, hB⟩ := hcut
    have HB : Hid (Below w.heap.size w _) := hB
    have HN : Hid (ShB w.heap.size K X Y A B C V _) := hN
    clear hN hB HB0 HN0 cL cN
    rcases hm with ⟨hS, rfl, rfl⟩ | ⟨hS, rfl⟩
    rotate_left
    · have hr : insideB K X Y A B C V x y = false := by unfold insideB; rw [hS]; rfl
      clear cP hS
      go_wp2_with fail
      go_ret
      exact ⟨by rw [hr]; rfl, HB.out⟩
    cases hP : (inB x (-100000) 100000 && inB y (-100000) 100000)
    · rw [hP] at cP
      have hr : insideB K X Y A B C V x y = false := by
        unfold insideB; rw [hS]
        revert hP
        generalize inB x (-100000) 100000 = p
        generalize inB y (-100000) 100000 = q
        cases p <;> cases q <;> simp
      clear hS hP
      go_wp2_with fail
      refine (cP _).mono ?_
      rintro e w' ⟨rfl, rfl⟩
      clear cP
      go_wp2_with fail
      go_ret
      exact ⟨by rw [hr]; rfl, HB.out⟩
    rw [hP] at cP
    simp only [Bool.and_eq_true] at hP
    obtain ⟨hx, hy⟩ := hP
    have hr : insideB K X Y A B C V x y = insB K A B C (x - X) (y - Y) := by
      unfold insideB; rw [hS, hx, hy]; simp
    obtain ⟨bX, bY, bA, bB, bC, _, c0, bAB⟩ := shape_bounds hS
    have bd := point_bounds hx bX
    have be := point_bounds hy bY
    have wd : IntKind.i64.wrap (x - X) = x - X := wrapn bd (by omega)
    have we : IntKind.i64.wrap (y - Y) = y - Y := wrapn be (by omega)
    have hK := kind_of hS
    clear hS hx hy bX bY c0 bAB
    rcases hK with rfl | rfl | rfl | rfl
    · have cH := has1 A B C (x - X) (y - Y) bA bB
      have n1 := nil95 A B
      have n2 := met95 A B
      clear bA bB bC bd be
      generalize hG : insB 1 A B C (x - X) (y - Y) = g at *
      obtain ⟨s0, s1, s2, s3, s4, s5, s6⟩ := HN.out
      have ho : outl 1 A B C = .iface 96 (.agg #[.int .i64 A, .int .i64 B]) := rfl
      rw [ho]
      go_wp2_with fail
      refine (cP _).mono ?_
      rintro e w' ⟨rfl, rfl⟩
      clear cP
      go_wp2_with fail
      refine (cH _).mono ?_
      rintro e w4 ⟨rfl, hb4⟩
      have HB4 : Hid (Below w.heap.size w w4) := bnext HB.out (Nat.le_refl _) hb4
      clear hb4 cH n1 n2
      go_wp2_with fail
      go_ret
      exact ⟨by rw [hr]; rfl, HB4.out⟩
    · have cH := has2 A B C (x - X) (y - Y) bA bB bd be
      have n1 := nil96 A B
      have n2 := met96 A B
      clear bA bB bC bd be
      generalize hG : insB 2 A B C (x - X) (y - Y) = g at *
      obtain ⟨s0, s1, s2, s3, s4, s5, s6⟩ := HN.out
      have ho : outl 2 A B C = .iface 97 (.agg #[.int .i64 A, .int .i64 B]) := rfl
      rw [ho]
      go_wp2_with fail
      refine (cP _).mono ?_
      rintro e w' ⟨rfl, rfl⟩
      clear cP
      go_wp2_with fail
      refine (cH _).mono ?_
      rintro e w4 ⟨rfl, hb4⟩
      have HB4 : Hid (Below w.heap.size w w4) := bnext HB.out (Nat.le_refl _) hb4
      clear hb4 cH n1 n2
      go_wp2_with fail
      go_ret
      exact ⟨by rw [hr]; rfl, HB4.out⟩
    · have cH := has3 A B C (x - X) (y - Y) bA bB bC bd be
      have n1 := nil98 A B C
      have n2 := met98 A B C
      clear bA bB bC bd be
      generalize hG : insB 3 A B C (x - X) (y - Y) = g at *
      obtain ⟨s0, s1, s2, s3, s4, s5, s6⟩ := HN.out
      have ho : outl 3 A B C = .iface 99 (.agg #[.int .i64 A, .int .i64 B, .int .i64 C]) := rfl
      rw [ho]
      go_wp2_with fail
      refine (cP _).mono ?_
      rintro e w' ⟨rfl, rfl⟩
      clear cP
      go_wp2_with fail
      refine (cH _).mono ?_
      rintro e w4 ⟨rfl, hb4⟩
      have HB4 : Hid (Below w.heap.size w w4) := bnext HB.out (Nat.le_refl _) hb4
      clear hb4 cH n1 n2
      go_wp2_with fail
      go_ret
      exact ⟨by rw [hr]; rfl, HB4.out⟩
    · have cH := has4 A B C (x - X) (y - Y) bA bB bd be
      have n1 := nil100 A B
      have n2 := met100 A B
      clear bA bB bC bd be
      generalize hG : insB 4 A B C (x - X) (y - Y) = g at *
      obtain ⟨s0, s1, s2, s3, s4, s5, s6⟩ := HN.out
      have ho : outl 4 A B C = .iface 101 (.agg #[.int .i64 A, .int .i64 B]) := rfl
      rw [ho]
      go_wp2_with fail
      refine (cP _).mono ?_
      rintro e w' ⟨rfl, rfl⟩
      clear cP
      go_wp2_with fail
      refine (cH _).mono ?_
      rintro e w4 ⟨rfl, hb4⟩
      have HB4 : Hid (Below w.heap.size w w4) := bnext HB.out (Nat.le_refl _) hb4
      clear hb4 cH n1 n2
      go_wp2_with fail
      go_ret
      exact ⟨by rw [hr]; rfl, HB4.out⟩

end Go.Proofs.Ytadeajdjjcelhaa
