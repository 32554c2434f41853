/- A place that a mapping moves to: the program. -/
import Derived.Test.YtjdbiaoheoialaaBxs
import Derived.Test.YtjdbiaoheoialaaMvn
import Derived.Test.YtjdbiaoheoialaaMpo
import Derived.Test.YtjdbiaoheoialaaVec
namespace Go.Proofs.Ytjdbiaoheoialaa
open Go.RowKit Go.Lib

/-- four numbers in a row -/
def fo4 (a b c d : Int) (k : Nat) : Int := match k with | 0 => a | 1 => b | 2 => c | _ => d
theorem fo4_px (a b c d : Int) (t : TypeId) (w : World) : Px (some ⟨w.heap.size, 0, none⟩) 4 (fo4 a b c d) (w.alloc (.cells #[.int .i64 a, .int .i64 b, .int .i64 c, .int .i64 d] t)) := by
  refine .inr ⟨_, 0, rfl, fun k hk => ?_⟩
  have h := Bx.new [.int .i64 a, .int .i64 b, .int .i64 c, .int .i64 d] t w
  match k, hk with
  | 0, _ => exact (h 0 _ rfl).1
  | 1, _ => exact (h 1 _ rfl).1
  | 2, _ => exact (h 2 _ rfl).1
  | 3, _ => exact (h 3 _ rfl).1
theorem fo4_gcd (a b c d : Int) : cgcd (fo4 a b c d) 4 = Int.gcd (Int.gcd a b : Nat) (Int.gcd c d : Nat) := by
  show Nat.gcd (Nat.gcd (Nat.gcd (Nat.gcd 0 a.natAbs) b.natAbs) c.natAbs) d.natAbs = Nat.gcd (Int.gcd a b : Nat) (Int.gcd c d : Nat)
  rw [Nat.gcd_zero_left, Nat.gcd_assoc]
  rfl

set_option maxRecDepth 100000 in
set_option maxHeartbeats 8000000 in
theorem place_any (M T : Nat → Int) (D x y z : Int) (bD : 1 ≤ D ∧ D ≤ 1000000) (bM : ∀ i, i < 9 → -1000000 ≤ M i ∧ M i ≤ 1000000) (bT : ∀ i, i < 3 → -1000000 ≤ T i ∧ T i ≤ 1000000) (bx : -1000000 ≤ x ∧ x ≤ 1000000) (hy : -1000000 ≤ y ∧ y ≤ 1000000) (bz : -1000000 ≤ z ∧ z ≤ 1000000) (w : World) :
    Calls Try.prog 27 #[mapV M T D, .agg #[.int .i64 x, .int .i64 y, .int .i64 z]] w fun e w' => e = .returned (plV (mvX M T x y z 0) (mvX M T x y z 1) (mvX M T x y z 2) D (mvG M T D x y z)) ∧ Below w.heap.size w w' := by
  have hgp := mvG_pos M T bD.1 x y z
  have HS0 := hide ((((St.start w).box (c13 M T D) 48).box' [.int .i64 x, .int .i64 y, .int .i64 z] 46 (b := w.heap.size + 1) (by simp)).box' [.int .i64 0, .int .i64 0, .int .i64 0, .int .i64 0] 34 (b := w.heap.size + 2) (by simp))
  obtain ⟨V, hV⟩ : ∃ V : Nat → Int, V = (fun k => match k with | 0 => x | 1 => y | _ => z) := ⟨_, rfl⟩
  have v0 : V 0 = x := congrFun hV 0
  have v1 : V 1 = y := congrFun hV 1
  have v2 : V 2 = z := congrFun hV 2
  clear hV
  have tb : ∀ i, i < 3 → (-1000000000000 ≤ M (3 * i) * V 0 ∧ M (3 * i) * V 0 ≤ 1000000000000) ∧ (-1000000000000 ≤ M (3 * i + 1) * V 1 ∧ M (3 * i + 1) * V 1 ≤ 1000000000000) ∧ (-1000000000000 ≤ M (3 * i + 2) * V 2 ∧ M (3 * i + 2) * V 2 ≤ 1000000000000) := fun i hi => by
    rw [v0, v1, v2]
    exact ⟨mul_b6 (bM _ (by omega)) bx, mul_b6 (bM _ (by omega)) hy, mul_b6 (bM _ (by omega)) bz⟩
  have cT := fun wx => times_any M V (fun i hi => by
    obtain ⟨g0, g1, g2⟩ := tb i hi
    unfold timF
    omega) wx
  have tF : ∀ i, i < 3 → -3000000000000 ≤ timF M V i ∧ timF M V i ≤ 3000000000000 := fun i hi => by
    obtain ⟨g0, g1, g2⟩ := tb i hi
    unfold timF
    omega
  have cP := fun wx => vplus_any (timF M V) T (fun i hi => by
    have := tF i hi
    have := bT i hi
    omega) wx
  have hX : ∀ i, timF M V i + T i = mvX M T x y z i := fun i => by unfold timF mvX; rw [v0, v1, v2]
  have hXb : ∀ i, i < 3 → -4000000000000 ≤ mvX M T x y z i ∧ mvX M T x y z i ≤ 4000000000000 := fun i hi => by
    rw [← hX i]
    have := tF i hi
    have := bT i hi
    omega
  have hv3 : vec3 (fun k => timF M V k + T k) = .agg #[.int .i64 (mvX M T x y z 0), .int .i64 (mvX M T x y z 1), .int .i64 (mvX M T x y z 2)] := by
    show Value.agg #[.int .i64 (timF M V 0 + T 0), .int .i64 (timF M V 1 + T 1), .int .i64 (timF M V 2 + T 2)] = _
    rw [hX 0, hX 1, hX 2]
  have hvV : vec3 V = .agg #[.int .i64 x, .int .i64 y, .int .i64 z] := by unfold vec3; rw [v0, v1, v2]
  rw [hv3] at cP
  rw [hvV] at cT
  have b0 := hXb 0 (by omega)
  have b1 := hXb 1 (by omega)
  have b2 := hXb 2 (by omega)
  have hG : cgcd (fo4 (mvX M T x y z 0) (mvX M T x y z 1) (mvX M T x y z 2) D) 4 = mvG M T D x y z := by rw [fo4_gcd]; rfl
  have cD := fun a' cp wx h => commonDivisor_any a' 4 cp (fo4 (mvX M T x y z 0) (mvX M T x y z 1) (mvX M T x y z 2) D) (by omega) (fun k hk => by
    match k, hk with
    | 0, _ => show (mvX M T x y z 0).natAbs ≤ _; omega
    | 1, _ => show (mvX M T x y z 1).natAbs ≤ _; omega
    | 2, _ => show (mvX M T x y z 2).natAbs ≤ _; omega
    | 3, _ => show D.natAbs ≤ _; omega) wx h
  rw [hG] at cD
  generalize timF M V = tm at *
  clear hv3 hvV hX hXb tF tb v0 v1 v2 hG bM bT bx hy bz
  generalize mvX M T x y z 0 = X0 at *
  generalize mvX M T x y z 1 = X1 at *
  generalize mvX M T x y z 2 = X2 at *
  generalize mvG M T D x y z = g at *
  obtain ⟨R, hR⟩ : ∃ R, R = plV X0 X1 X2 D g := ⟨_, rfl⟩
  rw [← hR]
  have HR := hide hR
  clear hR
  unfold mapV
  go_enter Try.func27, Try.ntmps27
  go_upto_region 1 with fail
  have hw3' : ∃ w3, w3 = ((w.alloc (.cells #[.int .i64 (M 0), .int .i64 (M 1), .int .i64 (M 2), .int .i64 (M 3), .int .i64 (M 4), .int .i64 (M 5), .int .i64 (M 6), .int .i64 (M 7), .int .i64 (M 8), .int .i64 (T 0), .int .i64 (T 1), .int .i64 (T 2), .int .i64 D] 48)).alloc (.cells #[.int .i64 x, .int .i64 y, .int .i64 z] 46)).alloc (.cells #[.int .i64 0, .int .i64 0, .int .i64 0, .int .i64 0] 34) := ⟨_, rfl⟩
  obtain ⟨w3, hw3⟩ := hw3'
  rw [← hw3]
  have HS3 : Hid (St w [(w.heap.size + 2, [.int .i64 0, .int .i64 0, .int .i64 0, .int .i64 0]), (w.heap.size + 1, [.int .i64 x, .int .i64 y, .int .i64 z]), (w.heap.size, c13 M T D)] [] w3) := by rw [hw3]; exact HS0.out
  clear hw3 HS0
  have BM : Hid (Bx w.heap.size (c13 M T D) w3) := HS3.out.bxAt 2 rfl
  have BV : Hid (Bx (w.heap.size + 1) [.int .i64 x, .int .i64 y, .int .i64 z] w3) := HS3.out.bxAt 1 rfl
  have BR : Hid (Bx (w.heap.size + 2) [.int .i64 0, .int .i64 0, .int .i64 0, .int .i64 0] w3) := HS3.out.bxAt 0 rfl
  have HW := hide HS3.out.below
  clear HS3
  go_cut [5] (fun s wc => ∃ q, s = .pointer (some ⟨q, 0, none⟩) ∧ w3.heap.size ≤ q ∧ Below w3.heap.size w3 wc ∧ Bx q [.int .i64 X0, .int .i64 X1, .int .i64 X2] wc)
  case first =>
    obtain ⟨G, hG⟩ : ∃ G : Nat → Value → Prop, G = (fun j v => match j with | 0 => v = .pointer (some ⟨w.heap.size, 0, none⟩) | 1 => v = mat9 M | 2 => v = .agg #[.int .i64 x, .int .i64 y, .int .i64 z] | 3 => v = vec3 tm | 4 => v = .pointer (some ⟨w.heap.size, 9, none⟩) | 5 => v = vec3 T | 6 => v = .agg #[.int .i64 X0, .int .i64 X1, .int .i64 X2] | _ => True) := ⟨_, rfl⟩
    have G0 : Hid (∀ v, G 0 v ↔ v = .pointer (some ⟨w.heap.size, 0, none⟩)) := fun v => by rw [hG]; exact Iff.rfl
    have G1 : Hid (∀ v, G 1 v ↔ v = mat9 M) := fun v => by rw [hG]; exact Iff.rfl
    have G2 : Hid (∀ v, G 2 v ↔ v = .agg #[.int .i64 x, .int .i64 y, .int .i64 z]) := fun v => by rw [hG]; exact Iff.rfl
    have G3 : Hid (∀ v, G 3 v ↔ v = vec3 tm) := fun v => by rw [hG]; exact Iff.rfl
    have G4 : Hid (∀ v, G 4 v ↔ v = .pointer (some ⟨w.heap.size, 9, none⟩)) := fun v => by rw [hG]; exact Iff.rfl
    have G5 : Hid (∀ v, G 5 v ↔ v = vec3 T) := fun v => by rw [hG]; exact Iff.rfl
    have G6 : Hid (∀ v, G 6 v ↔ v = .agg #[.int .i64 X0, .int .i64 X1, .int .i64 X2]) := fun v => by rw [hG]; exact Iff.rfl
    have G7 : Hid (∀ v, G 7 v) := fun v => by rw [hG]; trivial
    have G8 : Hid (∀ v, G 8 v) := fun v => by rw [hG]; trivial
    clear hG
    obtain ⟨PX, hPX⟩ : ∃ P : Nat → World → Prop, P = (fun q wx => Bx q [.int .i64 X0, .int .i64 X1, .int .i64 X2] wx) := ⟨_, rfl⟩
    have HPX : Hid (∀ (q : Nat) (wx wy : World), Below wx.heap.size wx wy → PX q wx → PX q wy) := by
      intro q wx wy hb hp
      rw [hPX] at hp ⊢
      exact hp.below hb hp.lt
    refine region_opsU (bR 7 8 (.int .i64 0) [.int .i64 0, .int .i64 0] w3) (bG 7 8 w3 G PX) (by kernel_rfl) (by kernel_rfl) (by kernel_rfl) ?_ ?_ ?_
    · refine ⟨(Below.refl _ _).drew, fun M hM => ?_⟩
      exact Value.noConfusion (Eq.trans (Eq.symm hM) (show _ = undef by kernel_rfl))
    · refine ⟨?_, ?_, ?_, ?_, ?_, ?_, ?_, ?_, ?_, trivial⟩
      · intro u w21 au hau hu hF hp' K hK
        have t2 : au.tmps[2]?.getD undef = .pointer (some ⟨w.heap.size, 0, none⟩) := by rw [hau.out]; kernel_rfl
        refine step_plain rfl ?_
        go_simp
        exact hK.out (.pointer (some ⟨w.heap.size, 0, none⟩)) _ (bR_up hF (Below.refl _ _) 0 (by omega) (by omega) _) (bG_val 0 (by omega) (by omega) ((G0.out _).2 rfl)) (fun j hj _ h => bG_up (fun M => HPX.out M _ _ (Below.refl _ _)) 0 (by omega) _ j hj h)
      · intro u w21 au hau hu hF hp' K hK
        have h0 : u 0 = .pointer (some ⟨w.heap.size, 0, none⟩) := (G0.out _).1 (PreF.get hp' 0 (by kernel_rfl)).1
        have t7 : au.tmps[7]?.getD undef = u 0 := by rw [hau.out]; kernel_rfl
        rw [h0] at t7
        have bx := BM.out.below hF.1 BM.out.lt
        obtain ⟨x0, -⟩ := bx 0 _ rfl
        obtain ⟨x1, -⟩ := bx 1 _ rfl
        obtain ⟨x2, -⟩ := bx 2 _ rfl
        obtain ⟨x3, -⟩ := bx 3 _ rfl
        obtain ⟨x4, -⟩ := bx 4 _ rfl
        obtain ⟨x5, -⟩ := bx 5 _ rfl
        obtain ⟨x6, -⟩ := bx 6 _ rfl
        obtain ⟨x7, -⟩ := bx 7 _ rfl
        obtain ⟨x8, -⟩ := bx 8 _ rfl
        clear bx
        refine step_plain rfl ?_
        go_simp
        exact hK.out (mat9 M) _ (bR_up hF (Below.refl _ _) 1 (by omega) (by omega) _) (bG_val 1 (by omega) (by omega) ((G1.out _).2 rfl)) (fun j hj _ h => bG_up (fun M => HPX.out M _ _ (Below.refl _ _)) 1 (by omega) _ j hj h)
      · intro u w21 au hau hu hF hp' K hK
        have t3 : au.tmps[3]?.getD undef = .pointer (some ⟨w.heap.size + 1, 0, none⟩) := by rw [hau.out]; kernel_rfl
        have bx := BV.out.below hF.1 BV.out.lt
        obtain ⟨x0, -⟩ := bx 0 _ rfl
        obtain ⟨x1, -⟩ := bx 1 _ rfl
        obtain ⟨x2, -⟩ := bx 2 _ rfl
        clear bx
        refine step_plain rfl ?_
        go_simp
        exact hK.out (.agg #[.int .i64 x, .int .i64 y, .int .i64 z]) _ (bR_up hF (Below.refl _ _) 2 (by omega) (by omega) _) (bG_val 2 (by omega) (by omega) ((G2.out _).2 rfl)) (fun j hj _ h => bG_up (fun M => HPX.out M _ _ (Below.refl _ _)) 2 (by omega) _ j hj h)
      · intro u w21 au hau hu hF hp' K hK
        have h1 : u 1 = mat9 M := (G1.out _).1 (PreF.get hp' 1 (by kernel_rfl)).1
        have t8 : au.tmps[8]?.getD undef = u 1 := by rw [hau.out]; kernel_rfl
        rw [h1] at t8
        have h2 : u 2 = .agg #[.int .i64 x, .int .i64 y, .int .i64 z] := (G2.out _).1 (PreF.get hp' 2 (by kernel_rfl)).1
        have t9 : au.tmps[9]?.getD undef = u 2 := by rw [hau.out]; kernel_rfl
        rw [h2] at t9
        have c := cT w21
        refine step_plain rfl ?_
        go_simp
        refine c.mono ?_
        rintro e w22 ⟨rfl, hb9⟩
        exact hK.out (vec3 tm) _ (bR_up hF hb9 3 (by omega) (by omega) _) (bG_val 3 (by omega) (by omega) ((G3.out _).2 rfl)) (fun j hj _ h => bG_up (fun M => HPX.out M _ _ hb9) 3 (by omega) _ j hj h)
      · intro u w21 au hau hu hF hp' K hK
        have t2 : au.tmps[2]?.getD undef = .pointer (some ⟨w.heap.size, 0, none⟩) := by rw [hau.out]; kernel_rfl
        refine step_plain rfl ?_
        go_simp
        exact hK.out (.pointer (some ⟨w.heap.size, 9, none⟩)) _ (bR_up hF (Below.refl _ _) 4 (by omega) (by omega) _) (bG_val 4 (by omega) (by omega) ((G4.out _).2 rfl)) (fun j hj _ h => bG_up (fun M => HPX.out M _ _ (Below.refl _ _)) 4 (by omega) _ j hj h)
      · intro u w21 au hau hu hF hp' K hK
        have h4 : u 4 = .pointer (some ⟨w.heap.size, 9, none⟩) := (G4.out _).1 (PreF.get hp' 4 (by kernel_rfl)).1
        have t11 : au.tmps[11]?.getD undef = u 4 := by rw [hau.out]; kernel_rfl
        rw [h4] at t11
        have bx := BM.out.below hF.1 BM.out.lt
        obtain ⟨x9, -⟩ := bx 9 _ rfl
        obtain ⟨x10, -⟩ := bx 10 _ rfl
        obtain ⟨x11, -⟩ := bx 11 _ rfl
        clear bx
        refine step_plain rfl ?_
        go_simp
        exact hK.out (vec3 T) _ (bR_up hF (Below.refl _ _) 5 (by omega) (by omega) _) (bG_val 5 (by omega) (by omega) ((G5.out _).2 rfl)) (fun j hj _ h => bG_up (fun M => HPX.out M _ _ (Below.refl _ _)) 5 (by omega) _ j hj h)
      · intro u w21 au hau hu hF hp' K hK
        have h3 : u 3 = vec3 tm := (G3.out _).1 (PreF.get hp' 3 (by kernel_rfl)).1
        have t10 : au.tmps[10]?.getD undef = u 3 := by rw [hau.out]; kernel_rfl
        rw [h3] at t10
        have h5 : u 5 = vec3 T := (G5.out _).1 (PreF.get hp' 5 (by kernel_rfl)).1
        have t12 : au.tmps[12]?.getD undef = u 5 := by rw [hau.out]; kernel_rfl
        rw [h5] at t12
        have c := cP w21
        refine step_plain rfl ?_
        go_simp
        refine c.mono ?_
        rintro e w22 ⟨rfl, hb9⟩
        exact hK.out (.agg #[.int .i64 X0, .int .i64 X1, .int .i64 X2]) _ (bR_up hF hb9 6 (by omega) (by omega) _) (bG_val 6 (by omega) (by omega) ((G6.out _).2 rfl)) (fun j hj _ h => bG_up (fun M => HPX.out M _ _ hb9) 6 (by omega) _ j hj h)
      · intro u w21 au hau hu hF hp' K hK
        refine step_plain rfl ?_
        go_simp
        exact hK.out (.pointer (some ⟨w21.heap.size, 0, none⟩)) _ (bR_al hF (Bx.new [.int .i64 0, .int .i64 0, .int .i64 0] 46 w21)) (bG_ptr (by omega) G7.out hF.1.size) (fun j hj hf h => bG_al j hj (fun e => by subst e; exact absurd (Eq.trans (Eq.symm (by kernel_rfl)) hf) Bool.false_ne_true) h)
      · intro u w21 au hau hu hF hp' K hK
        have hS : u 8 = undef := (hu.out 8 (by decide) (.inl rfl)).trans (by kernel_rfl)
        obtain ⟨q, hA, hBM⟩ := (PreF.get hp' 7 (by kernel_rfl)).2.1 rfl
        have hbx := (hF.2 q hA hBM).resolve_left (fun h => h hS)
        have t5 : au.tmps[5]?.getD undef = u 7 := by rw [hau.out]; kernel_rfl
        rw [hA] at t5
        have h6 : u 6 = .agg #[.int .i64 X0, .int .i64 X1, .int .i64 X2] := (G6.out _).1 (PreF.get hp' 6 (by kernel_rfl)).1
        have t13 : au.tmps[13]?.getD undef = u 6 := by rw [hau.out]; kernel_rfl
        rw [h6] at t13
        obtain ⟨x0, y0⟩ := hbx 0 _ rfl
        obtain ⟨x1, y1⟩ := hbx 1 _ rfl
        obtain ⟨x2, y2⟩ := hbx 2 _ rfl
        refine step_plain rfl ?_
        go_simp
        exact hK.out (.bool true) _ (bR_st (((hF.1.setCell (p := ⟨q, 0, none⟩) hBM _).setCell (p := ⟨q, 1, none⟩) hBM _).setCell (p := ⟨q, 2, none⟩) hBM _) (by simp [undef])) (bG_done (by omega) G8.out hA hBM (by rw [hPX]; exact ((hbx.set 0 (.int .i64 X0)).set 1 (.int .i64 X1)).set 2 (.int .i64 X2))) (fun j hj _ h => bG_st (by omega) j hj h)
    · intro u w30 hF hall
      obtain ⟨M9, hA, hBM, hp⟩ := (hall 8 (by decide)).2.2 rfl
      rw [hPX] at hp
      have HE9 := hide (And.intro hBM (And.intro hF.1 hp))
      clear hF hall hp hBM
      simp only [rgPut, Act.put, hA]
      clear hA
      go_simp
      go_wp2_with fail
      go_meet
      exact ⟨M9, rfl, HE9.out⟩
  case rest =>
    obtain ⟨q, rfl, hq, hwc, hbx⟩ := hcut
    obtain ⟨w5, hw5⟩ : ∃ w5, w5 = wc := ⟨_, rfl⟩
    rw [← hw5] at hwc hbx
    rw [← hw5]
    clear hw5
    have HB5 := hide (HW.out.trans (hwc.mono HW.out.size))
    have BM5 := hide (BM.out.below hwc BM.out.lt)
    have BR5 := hide (BR.out.below hwc BR.out.lt)
    have BX5 := hide hbx
    have HQ : Hid (w.heap.size + 2 < q) := Nat.lt_of_lt_of_le BR.out.lt hq
    clear hwc hbx hq BM BV BR HW cT cP
    obtain ⟨x0, -⟩ := BX5.out 0 _ rfl
    obtain ⟨x1, -⟩ := BX5.out 1 _ rfl
    obtain ⟨x2, -⟩ := BX5.out 2 _ rfl
    have xD := (BM5.out 12 _ rfl).1
    have hb6 := bnew w5 (.cells #[.int .i64 X0, .int .i64 X1, .int .i64 X2, .int .i64 D] 2)
    have c := cD (some ⟨w5.heap.size, 0, none⟩) 4 _ (fo4_px X0 X1 X2 D 2 w5)
    have HB6 := hide (HB5.out.trans (hb6.mono HB5.out.size))
    have BM6 := hide (BM5.out.below hb6 BM5.out.lt)
    have BR6 := hide (BR5.out.below hb6 BR5.out.lt)
    have BX6 := hide (BX5.out.below hb6 BX5.out.lt)
    clear hb6 BM5 BR5 BX5 HB5 cD
    go_wp2_with fail
    refine c.mono ?_
    rintro e w6 ⟨rfl, m, rfl⟩
    generalize hw7 : w5.alloc (.cells #[.int .i64 X0, .int .i64 X1, .int .i64 X2, .int .i64 D] 2) = w7 at *
    clear hw7 c x0 x1 x2 xD
    have x0 := (BX6.out 0 _ rfl).1
    have x1 := (BX6.out 1 _ rfl).1
    have x2 := (BX6.out 2 _ rfl).1
    have xD := (BM6.out 12 _ rfl).1
    obtain ⟨z0, y0⟩ := BR6.out 0 _ rfl
    obtain ⟨z1, y1⟩ := BR6.out 1 _ rfl
    obtain ⟨z2, y2⟩ := BR6.out 2 _ rfl
    obtain ⟨z3, y3⟩ := BR6.out 3 _ rfl
    have k0 := Int.natAbs_tdiv_le_natAbs X0 (g : Int)
    have k1 := Int.natAbs_tdiv_le_natAbs X1 (g : Int)
    have k2 := Int.natAbs_tdiv_le_natAbs X2 (g : Int)
    have k3 := Int.natAbs_tdiv_le_natAbs D (g : Int)
    obtain ⟨Q0, hQ0⟩ : ∃ Q, Q = X0.tdiv (g : Int) := ⟨_, rfl⟩
    obtain ⟨Q1, hQ1⟩ : ∃ Q, Q = X1.tdiv (g : Int) := ⟨_, rfl⟩
    obtain ⟨Q2, hQ2⟩ : ∃ Q, Q = X2.tdiv (g : Int) := ⟨_, rfl⟩
    obtain ⟨Q3, hQ3⟩ : ∃ Q, Q = D.tdiv (g : Int) := ⟨_, rfl⟩
    rw [← hQ0] at k0
    rw [← hQ1] at k1
    rw [← hQ2] at k2
    rw [← hQ3] at k3
    have HRQ : Hid (R = .agg #[.int .i64 Q0, .int .i64 Q1, .int .i64 Q2, .int .i64 Q3]) := by show _ = _; rw [HR.out, hQ0, hQ1, hQ2, hQ3]; rfl
    have w0 : IntKind.i64.wrap (X0.tdiv (g : Int)) = Q0 := by rw [IntKind.wrap_i64, ← hQ0]; omega
    have w1' : IntKind.i64.wrap (X1.tdiv (g : Int)) = Q1 := by rw [IntKind.wrap_i64, ← hQ1]; omega
    have w2 : IntKind.i64.wrap (X2.tdiv (g : Int)) = Q2 := by rw [IntKind.wrap_i64, ← hQ2]; omega
    have w3' : IntKind.i64.wrap (D.tdiv (g : Int)) = Q3 := by rw [IntKind.wrap_i64, ← hQ3]; omega
    have hg0 : ((g : Int) == 0) = false := by simp; omega
    have hg1 : ¬ (g : Int) = 0 := by omega
    have HB := hide HB6.out
    clear k0 k1 k2 k3 hQ0 hQ1 hQ2 hQ3 b0 b1 b2 bD BM6 BX6 BR6 HB6
    go_upto_region 3 with fail
    go_region
    all_goals
      clear x0 x1 x2 xD w0 w1' w2 w3' hg0 hg1
      go_wp2_with fail
      refine bodyPost_ret (v := .agg #[.int .i64 Q0, .int .i64 Q1, .int .i64 Q2, .int .i64 Q3]) (by simp [results, Try.results27, go_sem, z0, z1, z2, z3]) rfl ⟨by rw [HRQ.out], ?_⟩
      have hle : w.heap.size ≤ w.heap.size + 2 := by omega
      exact ((((((below_drewN HB.out m).setCell (p := ⟨w.heap.size + 2, 0, none⟩) hle _).setCell (p := ⟨w.heap.size + 2, 1, none⟩) hle _).setCell (p := ⟨w.heap.size + 2, 2, none⟩) hle _).setCell (p := ⟨w.heap.size + 2, 3, none⟩) hle _)).drew

end Go.Proofs.Ytjdbiaoheoialaa
