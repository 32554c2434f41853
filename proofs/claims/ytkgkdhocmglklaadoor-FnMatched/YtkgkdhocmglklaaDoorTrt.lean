/- Turns: when the specification calls one right. -/
import Derived.Test.YtkgkdhocmglklaaDoorTrs
import Derived.Deep.RegionHeld
import Derived.BigRegion
namespace Go.Proofs.YtkgkdhocmglklaaDoor
open Go.RowKit

/-- the counts, walked -/
def cnB (f : Nat → Int) : Bool := decide (cn 1 f 4 = 4) || (decide (cn 2 f 4 = 1) && decide (cn 0 f 4 = 3))
theorem cn_le (v : Int) (f : Nat → Int) : ∀ n : Nat, 0 ≤ cn v f n ∧ cn v f n ≤ n
  | 0 => by simp [cn]
  | n + 1 => by
    have := cn_le v f n
    unfold cn
    by_cases h : f n = v
    · rw [if_pos h]; omega
    · rw [if_neg h]; omega

theorem ab_low {x : Int} (h : -9223372036854775808 ≤ x) (h' : x ≤ 9223372036854775807) (hx : x ≤ -3) : ab x ≠ 0 ∧ ab x ≠ 1 ∧ ab x ≠ 2 :=
  ⟨fun e => by have := (ab_eq (by omega) (by omega) h h').1 e; omega, fun e => by have := (ab_eq (by omega) (by omega) h h').1 e; omega, fun e => by have := (ab_eq (by omega) (by omega) h h').1 e; omega⟩

set_option maxRecDepth 100000 in
set_option maxHeartbeats 4000000 in
theorem specTurnOk_any (a b c d : Int) (ha : -9223372036854775808 ≤ a ∧ a ≤ 9223372036854775807) (hb : -9223372036854775808 ≤ b ∧ b ≤ 9223372036854775807) (hc : -9223372036854775808 ≤ c ∧ c ≤ 9223372036854775807) (hd : -9223372036854775808 ≤ d ∧ d ≤ 9223372036854775807) (w : World) :
    Calls Tryd.prog 21 #[tv a b c d] w fun e w' => e = .returned (.bool (tkB a b c d)) ∧ Below w.heap.size w w' := by
  have HT := hide (tkB_counts ha hb hc hd)
  have HN : Hid (tkB a b c d = true → -3 < a ∧ -3 < b ∧ -3 < c ∧ -3 < d) := fun h => by
    obtain ⟨⟨w0, w1, x0, x1, y0, y1, z0, z1⟩, _⟩ := tkB_sml h
    omega
  clear ha hb hc hd
  have cA := fun x w' => l1Ab_any x w'
  have HS0 := hide ((St.start w).box [.int .i64 a, .int .i64 b, .int .i64 c, .int .i64 d] 28)
  have SKa := hide (And.intro (HS0.out.drew.cell 0 rfl 0 rfl) (And.intro (HS0.out.drew.cell 0 rfl 1 rfl) (And.intro (HS0.out.drew.cell 0 rfl 2 rfl) (HS0.out.drew.cell 0 rfl 3 rfl))))
  have HS1 := hide ((HS0.out.box' [.int .i64 (ab a), .int .i64 (ab b), .int .i64 (ab c), .int .i64 (ab d)] 2 (b := w.heap.size + 1) (by simp)).drew)
  have SKb := hide (And.intro (HS1.out.cell 1 rfl 0 rfl) (And.intro (HS1.out.cell 1 rfl 1 rfl) (And.intro (HS1.out.cell 1 rfl 2 rfl) (HS1.out.cell 1 rfl 3 rfl))))
  go_enter Tryd.func21, Tryd.ntmps21
  go_upto_region 1 with fail
  go_region_held (fun (w' : World) => w'.cell? ⟨w.heap.size, 0, none⟩ = some (.int .i64 a) ∧ w'.cell? ⟨w.heap.size, 1, none⟩ = some (.int .i64 b) ∧ w'.cell? ⟨w.heap.size, 2, none⟩ = some (.int .i64 c) ∧ w'.cell? ⟨w.heap.size, 3, none⟩ = some (.int .i64 d))
    (first | exact SKa.out | exact SKb.out)
    ((go_at_call 49; (with_reducible refine (cA _ _).mono ?_); rintro e w5 ⟨rfl, rfl⟩))
  have HPz : Hid (Px (some ⟨w.heap.size + 1, 0, none⟩) 4 (q4 (ab a) (ab b) (ab c) (ab d)) ((w.alloc (.cells #[.int .i64 a, .int .i64 b, .int .i64 c, .int .i64 d] 28)).alloc (.cells #[.int .i64 (ab a), .int .i64 (ab b), .int .i64 (ab c), .int .i64 (ab d)] 2)).drew) := by
    have := (px4 (ab a) (ab b) (ab c) (ab d) (w.alloc (.cells #[.int .i64 a, .int .i64 b, .int .i64 c, .int .i64 d] 28)) 2).drew
    rw [show (w.alloc (.cells #[.int .i64 a, .int .i64 b, .int .i64 c, .int .i64 d] 28)).heap.size = w.heap.size + 1 by simp] at this
    exact this
  have HBl := hide HS1.out.below
  obtain ⟨j0, j1, j2, j3⟩ := SKb.out
  clear SKa SKb cA HS0 HS1
  obtain ⟨wz, hwz⟩ : ∃ wz, ((w.alloc (.cells #[.int .i64 a, .int .i64 b, .int .i64 c, .int .i64 d] 28)).alloc (.cells #[.int .i64 (ab a), .int .i64 (ab b), .int .i64 (ab c), .int .i64 (ab d)] 2)).drew = wz := ⟨_, rfl⟩
  have HBz : Hid (Below w.heap.size w wz) := by show Below _ _ _; rw [← hwz]; exact HBl.out
  rw [hwz] at HPz j0 j1 j2 j3
  simp only [hwz]
  clear hwz HBl
  generalize q4 (ab a) (ab b) (ab c) (ab d) = f at *
  go_wp2_with fail
  go_loop [4, 5, 6, 7] (fun o t z i => ∃ k : Nat, k ≤ 4 ∧ i = .int .i64 k ∧ o = .int .i64 (cn 1 f k) ∧ t = .int .i64 (cn 2 f k) ∧ z = .int .i64 (cn 0 f k)) (fun _ _ _ i => 4 - (intOf i).toNat)
  case atStart => exact ⟨0, by omega, rfl, rfl, rfl, rfl⟩
  case round =>
    obtain ⟨k, hk, rfl, rfl, rfl, rfl⟩ := hrel
    by_cases hlt : k < 4
    · obtain ⟨bb, off, he, hz⟩ := HPz.out.at hlt
      cases he
      have hz' : wz.cell? ⟨w.heap.size + 1, k, none⟩ = some (.int .i64 (f k)) := by simpa using hz
      have g1 := cn_le 1 f k
      have g2 := cn_le 2 f k
      have g0 := cn_le 0 f k
      have HC : ∀ v, Hid (cn v f (k + 1) = cn v f k + (if f k = v then 1 else 0)) := fun v => rfl
      have HC1 := HC 1
      have HC2 := HC 2
      have HC0 := HC 0
      clear HC HPz hz HT HN HBz j0 j1 j2 j3
      have hlt' : (k : Int) < 4 := by omega
      generalize cn 1 f k = o at *
      generalize cn 2 f k = t at *
      generalize cn 0 f k = z at *
      generalize f k = x at *
      by_cases x0 : x = 0
      · subst x0
        rw [if_neg (by omega)] at HC1 HC2
        rw [if_pos rfl] at HC0
        go_wp2_with fail
        exact ⟨⟨k + 1, by omega, by go_num, by rw [HC1.out]; simp, by rw [HC2.out]; simp, by rw [HC0.out]⟩, by simp [intOf]; omega⟩
      by_cases x1 : x = 1
      · subst x1
        rw [if_neg (by omega)] at HC0 HC2
        rw [if_pos rfl] at HC1
        go_wp2_with fail
        exact ⟨⟨k + 1, by omega, by go_num, by rw [HC1.out], by rw [HC2.out]; simp, by rw [HC0.out]; simp⟩, by simp [intOf]; omega⟩
      by_cases x2 : x = 2
      · subst x2
        rw [if_neg (by omega)] at HC0 HC1
        rw [if_pos rfl] at HC2
        go_wp2_with fail
        exact ⟨⟨k + 1, by omega, by go_num, by rw [HC1.out]; simp, by rw [HC2.out], by rw [HC0.out]; simp⟩, by simp [intOf]; omega⟩
      · rw [if_neg x0] at HC0
        rw [if_neg x1] at HC1
        rw [if_neg x2] at HC2
        have t0 : (x == 0) = false := by simp [x0]
        have t1 : (x == 1) = false := by simp [x1]
        have t2 : (x == 2) = false := by simp [x2]
        go_wp2_with fail
        exact ⟨⟨k + 1, by omega, by go_num, by rw [HC1.out]; simp, by rw [HC2.out]; simp, by rw [HC0.out]; simp⟩, by simp [intOf]; omega⟩
    · obtain rfl : k = 4 := by omega
      clear HPz
      have hlt' : ¬ ((4 : Nat) : Int) < 4 := by omega
      by_cases ga : -3 < a
      case neg =>
        have HF : Hid (tkB a b c d = false) := by show _ = _; cases h : tkB a b c d with | false => rfl | true => exact absurd (HN.out h).1 ga
        clear HT HN
        go_wp2_with fail
        go_ret
        exact ⟨by rw [HF.out]; rfl, HBz.out⟩
      by_cases gb : -3 < b
      case neg =>
        have HF : Hid (tkB a b c d = false) := by show _ = _; cases h : tkB a b c d with | false => rfl | true => exact absurd (HN.out h).2.1 gb
        clear HT HN
        go_wp2_with fail
        go_ret
        exact ⟨by rw [HF.out]; rfl, HBz.out⟩
      by_cases gc : -3 < c
      case neg =>
        have HF : Hid (tkB a b c d = false) := by show _ = _; cases h : tkB a b c d with | false => rfl | true => exact absurd (HN.out h).2.2.1 gc
        clear HT HN
        go_wp2_with fail
        go_ret
        exact ⟨by rw [HF.out]; rfl, HBz.out⟩
      by_cases gd : -3 < d
      case neg =>
        have HF : Hid (tkB a b c d = false) := by show _ = _; cases h : tkB a b c d with | false => rfl | true => exact absurd (HN.out h).2.2.2 gd
        clear HT HN
        go_wp2_with fail
        go_ret
        exact ⟨by rw [HF.out]; rfl, HBz.out⟩
      clear HN
      generalize cn 1 f 4 = o at *
      generalize cn 2 f 4 = t at *
      generalize cn 0 f 4 = z at *
      by_cases o4 : o = 4
      · subst o4
        have HF : Hid (tkB a b c d = true) := by show _ = _; rw [HT.out]; rfl
        clear HT
        go_wp2_with fail
        go_ret
        exact ⟨by rw [HF.out]; rfl, HBz.out⟩
      have e4 : (o == 4) = false := by simp [o4]
      by_cases t1 : t = 1
      · subst t1
        by_cases z3 : z = 3
        · subst z3
          have HF : Hid (tkB a b c d = true) := by show _ = _; rw [HT.out]; simp
          clear HT
          go_wp2_with fail
          go_ret
          exact ⟨by rw [HF.out]; rfl, HBz.out⟩
        have e3 : (z == 3) = false := by simp [z3]
        have HF : Hid (tkB a b c d = false) := by show _ = _; rw [HT.out]; simp [o4, z3]
        clear HT
        go_wp2_with fail
        go_ret
        exact ⟨by rw [HF.out]; rfl, HBz.out⟩
      have e1 : (t == 1) = false := by simp [t1]
      have HF : Hid (tkB a b c d = false) := by show _ = _; rw [HT.out]; simp [o4, t1]
      clear HT
      go_wp2_with fail
      go_ret
      exact ⟨by rw [HF.out]; rfl, HBz.out⟩

end Go.Proofs.YtkgkdhocmglklaaDoor
