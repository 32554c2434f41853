/- Given: the specification. -/
import Derived.Test.YtfpeobkncileiaaLvi
namespace Go.Proofs.Ytfpeobkncileiaa
open Go.RowKit

/-- a list and a flag are answered -/
def LsRB (n : Nat) (s : Nat → Int) (p : Bool) (w : World) (e : Ending) (w' : World) : Prop :=
  ∃ a cap b, e = .returned (.tuple #[.slice a n cap, .bool p]) ∧ Ow a b n s w' ∧ (n = 0 ∨ w.heap.size ≤ b) ∧ Below w.heap.size w w'

set_option maxRecDepth 100000 in
set_option maxHeartbeats 16000000 in
theorem l11Given_any (a : Option Addr) (m cap : Nat) (f : Nat → Int) (hl : m ≤ 1048576) (n : Int) (w : World) (h : Px a (m * 3) f w) :
    Calls Try.prog 23 #[.slice a m cap, .int .i64 n] w (LsRB (gvN n m f) (fun q => gvS f q m) (lvB n m f) w) := by
  have HP := hide h
  clear h
  have HV : Hid (∀ p : Bool, (inB n 0 64 && (decide (m ≤ 64000) && allG (lfB n f) m)) = p → lvB n m f = p) := fun _ h => h
  have c0 := fun w' => l1In_any n 0 64 w'
  cases h0 : inB n 0 64
  · have hF : lvB n m f = false := HV.out _ (by rw [h0]; rfl)
    unfold gvN
    rw [hF]
    simp only [h0] at c0
    simp only [Bool.false_eq_true, if_false]
    clear h0 HV hF HP
    go_enter Try.func23, Try.ntmps23
    go_wp2_with fail
    refine (c0 _).mono ?_
    rintro e w1 ⟨rfl, rfl⟩
    go_wp2_with fail
    exact bodyPost_ret (v := .tuple #[.slice (some ⟨w1.heap.size, 0, none⟩) 0 0, .bool false]) (by simp [results, Try.results23, go_sem]) rfl ⟨_, _, 0, rfl, .inl rfl, .inl rfl, bnew _ _⟩
  have hn0 := inB_iff.1 h0
  simp only [h0] at c0
  rcases Nat.lt_or_ge 64000 m with hm | hm
  · have hF : lvB n m f = false := HV.out _ (by rw [decide_eq_false (by omega : ¬ m ≤ 64000), Bool.false_and, Bool.and_false])
    unfold gvN
    rw [hF]
    simp only [Bool.false_eq_true, if_false]
    clear h0 HV hF HP
    have hm' : (64000 : Int) < (m : Int) := by omega
    go_enter Try.func23, Try.ntmps23
    go_wp2_with fail
    refine (c0 _).mono ?_
    rintro e w1 ⟨rfl, rfl⟩
    go_wp2_with fail
    exact bodyPost_ret (v := .tuple #[.slice (some ⟨w1.heap.size, 0, none⟩) 0 0, .bool false]) (by simp [results, Try.results23, go_sem]) rfl ⟨_, _, 0, rfl, .inl rfl, .inl rfl, bnew _ _⟩
  obtain ⟨N, rfl⟩ : ∃ N : Nat, n = (N : Int) := ⟨n.toNat, by omega⟩
  have HVV : Hid (∀ p : Bool, allG (lfB N f) m = p → lvB N m f = p) := fun p hp => HV.out _ (by rw [h0, decide_eq_true hm, hp]; rfl)
  have hm' : ¬ (64000 : Int) < (m : Int) := by omega
  have hmk := fun w' => make_px N (by omega) w'
  have HFe : Hid (lvB N m f = false → ∀ w' w'' : World, Below w.heap.size w w' → w'' = w'.alloc (.cells #[] 2) → LsRB (gvN N m f) (fun q => gvS f q m) (lvB N m f) w (.returned (.tuple #[.slice (some ⟨w'.heap.size, 0, none⟩) 0 0, .bool false])) w'') := fun hF w' w'' hb e => by
    unfold gvN
    rw [hF, e]
    simp only [Bool.false_eq_true, if_false]
    exact ⟨_, _, 0, rfl, .inl rfl, .inl rfl, hb.alloc hb.size _⟩
  have HTr : Hid (lvB N m f = true → gvN N m f = N) := fun h => by unfold gvN; rw [h, if_pos rfl, Int.toNat_natCast]
  clear h0 HV
  go_enter Try.func23, Try.ntmps23
  go_wp2_with fail
  refine (c0 _).mono ?_
  rintro e w1 ⟨rfl, rfl⟩
  have HS2 := hide ((St.start w1).own (bnew w1 (.cells (madeCells #[.int .i64 0] N) 2)) (row_new N w1).v (.inr (Nat.le_refl _)))
  obtain ⟨B, hB⟩ : ∃ B, w1.heap.size = B := ⟨_, rfl⟩
  have hBB : w1.heap.size ≤ B := by omega
  rw [hB] at HS2
  clear c0
  go_wp2_with fail
  clear hmk
  try simp only [hB]
  clear hB
  go_loopw [7, 8, 9] (fun i _ _ wr => ∃ k : Nat, k ≤ m ∧ i = .int .i64 k ∧ (∀ i, i < k → lfB N f i = true) ∧ St w1 [] [(some ⟨B, 0, none⟩, B, N, fun q => .int .i64 (gvS f q k))] wr) (fun i _ _ _ => m - (intOf i).toNat)
  case atStart => exact ⟨0, by omega, rfl, fun i hi => by omega, HS2.out⟩
  case round =>
    obtain ⟨k, hk, rfl, hA, hs⟩ := hrel
    obtain ⟨wo, rfl⟩ : ∃ wo, wo = wr := ⟨_, rfl⟩
    have HA := hide hA
    clear HS2 hA
    by_cases hlt : k < m
    · obtain ⟨b, off, rfl, hbl, z0, z1, z2⟩ := (HP.out.below hs.below).atLeaf hlt
      have HIF := hide (lfB_iff (n := (N : Int)) (f := f) (i := k))
      have HNo : Hid (lfB N f k = false → lvB N m f = false) := fun h => HVV.out _ (allG_no k hlt h)
      have HGv : Hid (lfB N f k = true → ∀ q, 0 ≤ gvS f q (k + 1) ∧ gvS f q (k + 1) ≤ 1000 * ((k + 1 : Nat) : Int)) := fun h q => gvS_bd (n := (N : Int)) (f := f) q (k + 1) (fun i hi => by
        by_cases e : i = k
        · rw [e]; exact h
        · exact HA.out i (by omega))
      have HGm := hide (fun q => gvS_bd (n := (N : Int)) (f := f) q k (fun i hi => HA.out i (by omega)))
      have HS3 := hide (hs.box [.int .i64 (f (k * 3)), .int .i64 (f (k * 3 + 1)), .int .i64 (f (k * 3 + 2))] 42)
      have HE0 := hide (fun (p : Nat) (h : (p : Int) = f (k * 3)) q => gvM_at0 (f := f) (k := k) (p := p) h q)
      have HER := hide (fun (p : Nat) (h : (p : Int) = f (k * 3 + 1)) q => gvM_atR (f := f) (k := k) (p := p) h q)
      have HEh := hide (fun (p : Nat) (h0 : f (k * 3) ≤ (p : Int)) (h1 : (p : Int) < f (k * 3 + 1)) => gvM_here (f := f) (k := k) (p := p) h0 h1)
      clear hs hbl HP HVV HTr
      generalize f (k * 3) = L at *
      generalize f (k * 3 + 1) = R at *
      generalize f (k * 3 + 2) = U at *
      have fin : ∀ (hF : lfB N f k = false), Hid (LsRB (gvN N m f) (fun q => gvS f q m) (lvB N m f) w1 (.returned (.tuple #[.slice (some ⟨(wo.alloc (.cells #[.int .i64 L, .int .i64 R, .int .i64 U] 42)).heap.size, 0, none⟩) 0 0, .bool false])) ((wo.alloc (.cells #[.int .i64 L, .int .i64 R, .int .i64 U] 42)).alloc (.cells #[] 2))) := fun hF => HFe.out (HNo.out hF) _ _ HS3.out.below rfl
      clear HFe HNo
      have cU := fun w' => l1In_any U 1 1000 w'
      by_cases q1 : L < 0
      · have HE := fin (by cases hF : lfB N f k; rfl; have := HIF.out.1 hF; omega)
        clear fin HIF HGv HGm HE0 HER HEh HA HS3 cU hn0
        go_wp2_with fail
        exact bodyPost_ret (v := .tuple #[.slice (some ⟨(wo.alloc (.cells #[.int .i64 L, .int .i64 R, .int .i64 U] 42)).heap.size, 0, none⟩) 0 0, .bool false]) (by simp [results, Try.results23, go_sem]) rfl HE.out
      by_cases q2 : R ≤ L
      · have HE := fin (by cases hF : lfB N f k; rfl; have := HIF.out.1 hF; omega)
        clear fin HIF HGv HGm HE0 HER HEh HA HS3 cU hn0
        go_wp2_with fail
        exact bodyPost_ret (v := .tuple #[.slice (some ⟨(wo.alloc (.cells #[.int .i64 L, .int .i64 R, .int .i64 U] 42)).heap.size, 0, none⟩) 0 0, .bool false]) (by simp [results, Try.results23, go_sem]) rfl HE.out
      by_cases q3 : (N : Int) < R
      · have HE := fin (by cases hF : lfB N f k; rfl; have := HIF.out.1 hF; omega)
        clear fin HIF HGv HGm HE0 HER HEh HA HS3 cU hn0
        go_wp2_with fail
        exact bodyPost_ret (v := .tuple #[.slice (some ⟨(wo.alloc (.cells #[.int .i64 L, .int .i64 R, .int .i64 U] 42)).heap.size, 0, none⟩) 0 0, .bool false]) (by simp [results, Try.results23, go_sem]) rfl HE.out
      cases q4 : inB U 1 1000
      · have HE := fin (by cases hF : lfB N f k; rfl; have := HIF.out.1 hF; have := inB_iff.2 (⟨this.2.2.2.1, this.2.2.2.2⟩ : (1 : Int) ≤ U ∧ U ≤ 1000); rw [q4] at this; cases this)
        simp only [q4] at cU
        clear fin HIF HGv HGm HE0 HER HEh HA HS3 hn0 q4
        go_wp2_with fail
        refine (cU _).mono ?_
        rintro e w2 ⟨rfl, rfl⟩
        go_wp2_with fail
        exact bodyPost_ret (v := .tuple #[.slice (some ⟨(wo.alloc (.cells #[.int .i64 L, .int .i64 R, .int .i64 U] 42)).heap.size, 0, none⟩) 0 0, .bool false]) (by simp [results, Try.results23, go_sem]) rfl HE.out
      have hU := inB_iff.1 q4
      have hF : lfB N f k = true := HIF.out.2 ⟨by omega, by omega, by omega, hU.1, hU.2⟩
      have HAn : Hid (∀ i, i < k + 1 → lfB N f i = true) := fun i hi => by
        by_cases e : i = k
        · rw [e]; exact hF
        · exact HA.out i (by omega)
      have HGw := hide (HGv.out hF)
      simp only [q4] at cU
      clear fin HIF HGv HA hF q4
      obtain ⟨L, rfl⟩ : ∃ L' : Nat, L = (L' : Int) := ⟨L.toNat, by omega⟩
      obtain ⟨R, rfl⟩ : ∃ R' : Nat, R = (R' : Int) := ⟨R.toNat, by omega⟩
      go_wp2_with fail
      refine (cU _).mono ?_
      rintro e w2 ⟨rfl, rfl⟩
      have y0 := HS3.out.cell 0 rfl 0 rfl
      clear cU
      go_wp2_with fail
      clear y0 z0 z1 z2
      generalize wo.heap.size = C at *
      go_loopw [9] (fun s wr => ∃ p : Nat, L ≤ p ∧ p ≤ R ∧ s = .int .i64 p ∧ St w1 [(C, [.int .i64 L, .int .i64 R, .int .i64 U])] [(some ⟨B, 0, none⟩, B, N, fun q => .int .i64 (gvM f k p q))] wr) (fun s _ => R - (intOf s).toNat)
      case atStart =>
        refine ⟨L, Nat.le_refl _, by omega, rfl, ?_⟩
        rw [show (fun q => Value.int .i64 (gvM f k L q)) = fun q => Value.int .i64 (gvS f q k) from funext fun q => by rw [HE0.out L rfl q]]
        exact HS3.out
      case round =>
        obtain ⟨p, hp0, hp1, rfl, hs⟩ := hrel
        clear HS3
        have y1 := hs.cell 0 rfl 1 rfl
        by_cases hpR : p < R
        · have y2 := hs.cell 0 rfl 2 rfl
          obtain ⟨d0, f0⟩ := hs.atO (k := p) (by omega)
          have hX := HEh.out p (by omega) (by omega)
          have b1 := HGw.out p
          have b2 := HGm.out p
          have hS4 := (hs.upd (k := p) (by omega) (gvS f p (k + 1))).drew
          rw [show (fun q => Value.int .i64 (updN (gvM f k p) p (gvS f p (k + 1)) q)) = fun q => Value.int .i64 (gvM f k (p + 1) q) from funext fun q => by rw [gvM_next]] at hS4
          have d4 := (hS4.atO (k := p) (by omega)).1
          rw [show gvM f k (p + 1) p = gvS f p (k + 1) by unfold gvM; rw [if_pos (by omega)]] at d4
          have HS4 := hide hS4
          have wX : IntKind.i64.wrap (gvM f k p p + U) = gvS f p (k + 1) := by rw [hX, IntKind.wrap_i64]; omega
          have hle : ¬ (1000000000 : Int) < gvS f p (k + 1) := by omega
          have hp9 : p < 64 := by omega
          clear hs hX hS4 b1 b2 HGw HGm HE0 HER HEh HAn hU hn0
          generalize gvM f k p p = X1 at *
          generalize gvS f p (k + 1) = X2 at *
          go_upto_region 13 with fail
          go_region_with (fail)
          all_goals
            generalize (wr.setCell ⟨B, p, none⟩ (.int .i64 X2)).drew = wz at *
            clear d0 f0 y1 y2 wX
            go_wp2_with fail
            exact ⟨⟨p + 1, by omega, by omega, rfl, HS4.out⟩, by simp [intOf]; omega⟩
        · obtain rfl : p = R := by omega
          have HS5 : Hid (St w1 [] [(some ⟨B, 0, none⟩, B, N, fun q => .int .i64 (gvS f q (k + 1)))] wr) := by
            have := hs.sub (L' := []) (O' := [(some ⟨B, 0, none⟩, B, N, fun q => .int .i64 (gvM f k p q))]) (by simp) (by simp)
            rw [show (fun q => Value.int .i64 (gvM f k p q)) = fun q => Value.int .i64 (gvS f q (k + 1)) from funext fun q => by rw [HER.out p rfl q]] at this
            exact this
          clear hs HGw HGm HE0 HER HEh
          go_wp2_with fail
          exact ⟨⟨k + 1, by omega, rfl, HAn.out, HS5.out⟩, by simp [intOf]; omega⟩
    · obtain rfl : k = m := by omega
      have hT := HVV.out true (by
        have : ∀ j, j ≤ k → allG (lfB N f) j = true := fun j => by
          induction j with
          | zero => intro _; rfl
          | succ j ih => intro hj; show (allG (lfB N f) j && lfB N f j) = true; rw [ih (by omega), HA.out j (by omega)]; rfl
        exact this k (Nat.le_refl _))
      have HE : Hid (LsRB (gvN N k f) (fun q => gvS f q k) (lvB N k f) w1 (.returned (.tuple #[.slice (some ⟨B, 0, none⟩) N N, .bool true])) wo) := by
        rw [HTr.out hT, hT]
        exact ⟨_, _, B, rfl, (hs.nthO 0 rfl).i, .inr hBB, hs.below⟩
      clear hs HA HP HTr HVV HFe hn0 hT
      go_wp2_with fail
      exact bodyPost_ret (v := .tuple #[.slice (some ⟨B, 0, none⟩) N N, .bool true]) (by simp [results, Try.results23, go_sem]) rfl HE.out

set_option maxRecDepth 100000 in
set_option maxHeartbeats 4000000 in
theorem specGiven_any (a : Option Addr) (m cap : Nat) (f : Nat → Int) (hl : m ≤ 1048576) (n : Int) (w : World) (h : Px a (m * 3) f w) :
    Calls Try.prog 11 #[.slice a m cap, .int .i64 n] w (LsR (gvN n m f) (fun q => gvS f q m) w) := by
  have c := l11Given_any a m cap f hl n w h
  unfold LsRB at c
  generalize gvN n m f = r at *
  generalize lvB n m f = p at *
  clear h
  go_enter Try.func11, Try.ntmps11
  go_wp2_with fail
  refine c.mono ?_
  rintro e w1 ⟨a1, cap1, b1, rfl, h1, h2, h3⟩
  have HE : Hid (LsR r (fun q => gvS f q m) w (.returned (.slice a1 r cap1)) w1) := ⟨_, _, _, rfl, h1, h2, h3⟩
  clear h1 h2 h3 c
  go_wp2_with fail
  go_ret
  exact HE.out

theorem gvN_le (n : Int) (m : Nat) (f : Nat → Int) : gvN n m f ≤ 1048576 := by
  unfold gvN
  cases h : lvB n m f
  · simp
  · have := lvB_parts h
    rw [if_pos rfl]; omega

end Go.Proofs.Ytfpeobkncileiaa
