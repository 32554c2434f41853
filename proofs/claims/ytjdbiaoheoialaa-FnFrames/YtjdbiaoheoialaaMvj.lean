/- Move: the program. -/
import Derived.Test.YtjdbiaoheoialaaPla
import Derived.Test.YtjdbiaoheoialaaFrq
namespace Go.Proofs.Ytjdbiaoheoialaa
open Go.RowKit Go.Lib

/-- three numbers in a row -/
def fo3 (a b c : Int) (k : Nat) : Int := match k with | 0 => a | 1 => b | _ => c
theorem fo3_px {q : Nat} {a b c : Int} {w : World} (h : Bx q [.int .i64 a, .int .i64 b, .int .i64 c] w) : Px (some ⟨q, 0, none⟩) 3 (fo3 a b c) w := by
  refine .inr ⟨_, 0, rfl, fun k hk => ?_⟩
  match k, hk with
  | 0, _ => exact (h 0 _ rfl).1
  | 1, _ => exact (h 1 _ rfl).1
  | 2, _ => exact (h 2 _ rfl).1
theorem fo3_alW (a b c lo hi : Int) : alW (fo3 a b c) lo hi 3 = (inB a lo hi && (inB b lo hi && inB c lo hi)) := by
  show (((true && inB a lo hi) && inB b lo hi) && inB c lo hi) = _
  cases inB a lo hi <;> cases inB b lo hi <;> cases inB c lo hi <;> rfl

set_option maxRecDepth 100000 in
set_option maxHeartbeats 8000000 in
theorem implMove_any (D : Int) (a0 : Option Addr) (n0 c0 : Nat) (M : Nat → Int) (_hl0 : n0 ≤ 1048576) (a1 : Option Addr) (n1 c1 : Nat) (T : Nat → Int) (_hl1 : n1 ≤ 1048576) (x y z : Int) (w : World) (h0 : Px a0 n0 M w) (h1 : Px a1 n1 T w) :
    Calls Try.prog 11 #[vFrame D a0 n0 c0 a1 n1 c1, .int .i64 x, .int .i64 y, .int .i64 z] w fun e w' => e = .returned (movV D n0 M n1 T x y z) ∧ Below w.heap.size w w' := by
  have HS0 := hide (((St.start w).box [.slice a0 n0 c0, .slice a1 n1 c1, .int .i64 D] 26).box' [.int .i64 0, .int .i64 0, .int .i64 0, .int .i64 0] 34 (b := w.heap.size + 1) (by simp))
  have c := mappingOf_any D a0 n0 c0 M a1 n1 c1 T _ (h0.below HS0.out.below) (h1.below HS0.out.below)
  obtain ⟨V, hV⟩ : ∃ V, V = movV D n0 M n1 T x y z := ⟨_, rfl⟩
  rw [← hV]
  have HVn : Hid (movB D n0 M n1 T x y z = false → V = .agg #[.int .i64 0, .int .i64 0, .int .i64 0, .int .i64 0]) := fun e => by rw [hV]; unfold movV; rw [e]; rfl
  have HVy : Hid (movB D n0 M n1 T x y z = true → V = plV (mvX M T x y z 0) (mvX M T x y z 1) (mvX M T x y z 2) D (mvG M T D x y z)) := fun e => by rw [hV]; unfold movV; rw [e]; rfl
  clear hV h0 h1
  have HMB : Hid (movB D n0 M n1 T x y z = (frI D n0 M n1 T && alW (fo3 x y z) (-1000000) 1000000 3)) := by show _ = _; unfold movB; rw [frI_eq, fo3_alW]
  have HFR : Hid (frI D n0 M n1 T = true → len93 n0 n1 = true ∧ frmB D n0 M n1 T = true) := fun hf => ⟨by unfold frI at hf; simp only [Bool.and_eq_true] at hf; exact hf.1, (frI_eq D n0 M n1 T).symm.trans hf⟩
  unfold MpR at c
  obtain ⟨rb, hrb⟩ : ∃ rb, rb = frI D n0 M n1 T := ⟨_, rfl⟩
  rw [← hrb] at c HMB HFR
  clear hrb
  obtain ⟨M', hM'⟩ : ∃ M', M' = sel (len93 n0 n1) M := ⟨_, rfl⟩
  obtain ⟨T', hT'⟩ : ∃ T', T' = sel (len93 n0 n1) T := ⟨_, rfl⟩
  obtain ⟨D', hD'⟩ : ∃ D', D' = selD (len93 n0 n1) D := ⟨_, rfl⟩
  rw [← hM', ← hT', ← hD'] at c
  have HMT := hide (And.intro hM' (And.intro hT' hD'))
  clear hM' hT' hD'
  unfold mapV at c
  obtain ⟨i0, i1, i2⟩ := HS0.out.im3 1 rfl
  go_enter Try.func11, Try.ntmps11
  go_wp2_with fail
  refine c.mono ?_
  rintro e w1 ⟨rfl, hb⟩
  have HS1 := hide (HS0.out.next hb)
  clear hb c HS0 i0 i1 i2
  have HS2 := hide ((HS1.out.box (c13 M' T' D') 48).box' [.int .i64 x, .int .i64 y, .int .i64 z] 46 (b := w1.heap.size + 1) (by simp))
  obtain ⟨w2, hw2⟩ : ∃ w2, w2 = (w1.alloc (.cells #[.int .i64 (M' 0), .int .i64 (M' 1), .int .i64 (M' 2), .int .i64 (M' 3), .int .i64 (M' 4), .int .i64 (M' 5), .int .i64 (M' 6), .int .i64 (M' 7), .int .i64 (M' 8), .int .i64 (T' 0), .int .i64 (T' 1), .int .i64 (T' 2), .int .i64 D'] 48)).alloc (.cells #[.int .i64 x, .int .i64 y, .int .i64 z] 46) := ⟨_, rfl⟩
  have HS3 : Hid (St w [(w1.heap.size + 1, [.int .i64 x, .int .i64 y, .int .i64 z]), (w1.heap.size, c13 M' T' D'), (w.heap.size + 1, [.int .i64 0, .int .i64 0, .int .i64 0, .int .i64 0]), (w.heap.size, [.slice a0 n0 c0, .slice a1 n1 c1, .int .i64 D])] [] w2) := by rw [hw2]; exact HS2.out
  clear HS2 HS1
  go_upto_region 3 with fail
  rw [← hw2]
  clear hw2
  generalize w1.heap.size + 1 = qv at *
  generalize w1.heap.size = qm at *
  have BV : Hid (Bx qv [.int .i64 x, .int .i64 y, .int .i64 z] w2) := HS3.out.bxAt 0 rfl
  have BM : Hid (Bx qm (c13 M' T' D') w2) := HS3.out.bxAt 1 rfl
  have BR : Hid (Bx (w.heap.size + 1) [.int .i64 0, .int .i64 0, .int .i64 0, .int .i64 0] w2) := HS3.out.bxAt 2 rfl
  have HW := hide HS3.out.below
  clear HS3
  cases rb
  · have HN := hide (HVn.out (by rw [HMB.out]; rfl))
    obtain ⟨z0, y0⟩ := BR.out 0 _ rfl
    obtain ⟨z1, y1⟩ := BR.out 1 _ rfl
    obtain ⟨z2, y2⟩ := BR.out 2 _ rfl
    obtain ⟨z3, y3⟩ := BR.out 3 _ rfl
    clear BV BM BR HVn HVy HMB HFR HMT
    go_wp2_with fail
    exact bodyPost_ret (v := .agg #[.int .i64 0, .int .i64 0, .int .i64 0, .int .i64 0]) (by simp [results, Try.results11, go_sem, z0, z1, z2, z3]) rfl ⟨by rw [HN.out], (((HW.out.setCell (p := ⟨w.heap.size + 1, 0, none⟩) (Nat.le_succ _) _).setCell (p := ⟨w.heap.size + 1, 1, none⟩) (Nat.le_succ _) _).setCell (p := ⟨w.heap.size + 1, 2, none⟩) (Nat.le_succ _) _).setCell (p := ⟨w.heap.size + 1, 3, none⟩) (Nat.le_succ _) _⟩
  · obtain ⟨hl, hfr⟩ := HFR.out rfl
    obtain ⟨eM, eT, eD⟩ := HMT.out
    rw [hl] at eM eT eD
    have eM' : M' = M := eM
    have eT' : T' = T := eT
    have eD' : D' = D := eD
    subst eM' eT' eD'
    clear HMT HFR hl eM eT eD
    obtain ⟨-, -, bD, bM, bT, -⟩ := frmB_parts hfr
    have cW := allWithin_any (-1000000) 1000000 (some ⟨qv, 0, none⟩) 3 3 (fo3 x y z) (by omega) w2 (fo3_px BV.out)
    rw [Bool.true_and] at HMB
    obtain ⟨aw, haw⟩ : ∃ aw, aw = alW (fo3 x y z) (-1000000) 1000000 3 := ⟨_, rfl⟩
    rw [← haw] at cW HMB
    have HAW := hide haw
    clear haw hfr
    go_wp2_with fail
    refine cW.mono ?_
    rintro e w3 ⟨rfl, hw3⟩
    obtain rfl := hw3.symm
    clear cW
    cases aw
    · have HN := hide (HVn.out HMB.out)
      obtain ⟨z0, y0⟩ := BR.out 0 _ rfl
      obtain ⟨z1, y1⟩ := BR.out 1 _ rfl
      obtain ⟨z2, y2⟩ := BR.out 2 _ rfl
      obtain ⟨z3, y3⟩ := BR.out 3 _ rfl
      clear BV BM BR HVn HVy HMB bD bM bT
      go_wp2_with fail
      exact bodyPost_ret (v := .agg #[.int .i64 0, .int .i64 0, .int .i64 0, .int .i64 0]) (by simp [results, Try.results11, go_sem, z0, z1, z2, z3]) rfl ⟨by rw [HN.out], (((HW.out.setCell (p := ⟨w.heap.size + 1, 0, none⟩) (Nat.le_succ _) _).setCell (p := ⟨w.heap.size + 1, 1, none⟩) (Nat.le_succ _) _).setCell (p := ⟨w.heap.size + 1, 2, none⟩) (Nat.le_succ _) _).setCell (p := ⟨w.heap.size + 1, 3, none⟩) (Nat.le_succ _) _⟩
    · have HY := hide (HVy.out HMB.out)
      have ha := HAW.out
      rw [fo3_alW] at ha
      have ha' : inB x (-1000000) 1000000 = true ∧ inB y (-1000000) 1000000 = true ∧ inB z (-1000000) 1000000 = true := by
        have := ha.symm
        simp only [Bool.and_eq_true] at this
        exact this
      have cP := fun wx => place_any M' T' D' x y z bD bM bT (inB6 ha'.1) (inB6 ha'.2.1) (inB6 ha'.2.2) wx
      rw [← HY.out] at cP
      have hVp : ∃ v0 v1 v2 v3, V = .agg #[.int .i64 v0, .int .i64 v1, .int .i64 v2, .int .i64 v3] := ⟨_, _, _, _, HY.out⟩
      obtain ⟨p0, p1, p2, p3, hVp⟩ := hVp
      rw [hVp] at cP
      have HVP := hide hVp
      clear ha ha' HAW HVn HVy HMB HY bD bM bT hVp
      unfold mapV at cP
      obtain ⟨v0, -⟩ := BV.out 0 _ rfl
      obtain ⟨v1, -⟩ := BV.out 1 _ rfl
      obtain ⟨v2, -⟩ := BV.out 2 _ rfl
      have g0 := (BM.out 0 _ rfl).1
      have g1 := (BM.out 1 _ rfl).1
      have g2 := (BM.out 2 _ rfl).1
      have g3 := (BM.out 3 _ rfl).1
      have g4 := (BM.out 4 _ rfl).1
      have g5 := (BM.out 5 _ rfl).1
      have g6 := (BM.out 6 _ rfl).1
      have g7 := (BM.out 7 _ rfl).1
      have g8 := (BM.out 8 _ rfl).1
      have g9 := (BM.out 9 _ rfl).1
      have g10 := (BM.out 10 _ rfl).1
      have g11 := (BM.out 11 _ rfl).1
      have g12 := (BM.out 12 _ rfl).1
      go_wp2_with fail
      refine (cP _).mono ?_
      rintro e w4 ⟨rfl, hb4⟩
      have BR4 := hide (BR.out.below hb4 BR.out.lt)
      have HW4 := hide (HW.out.trans (hb4.mono HW.out.size))
      clear cP hb4 v0 v1 v2 g0 g1 g2 g3 g4 g5 g6 g7 g8 g9 g10 g11 g12 BR BV BM HW
      obtain ⟨z0, y0⟩ := BR4.out 0 _ rfl
      obtain ⟨z1, y1⟩ := BR4.out 1 _ rfl
      obtain ⟨z2, y2⟩ := BR4.out 2 _ rfl
      obtain ⟨z3, y3⟩ := BR4.out 3 _ rfl
      go_wp2_with fail
      exact bodyPost_ret (v := .agg #[.int .i64 p0, .int .i64 p1, .int .i64 p2, .int .i64 p3]) (by simp [results, Try.results11, go_sem, z0, z1, z2, z3]) rfl ⟨by rw [HVP.out], (((HW4.out.setCell (p := ⟨w.heap.size + 1, 0, none⟩) (Nat.le_succ _) _).setCell (p := ⟨w.heap.size + 1, 1, none⟩) (Nat.le_succ _) _).setCell (p := ⟨w.heap.size + 1, 2, none⟩) (Nat.le_succ _) _).setCell (p := ⟨w.heap.size + 1, 3, none⟩) (Nat.le_succ _) _⟩

end Go.Proofs.Ytjdbiaoheoialaa
