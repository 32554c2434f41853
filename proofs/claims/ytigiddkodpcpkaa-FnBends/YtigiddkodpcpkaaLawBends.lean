/- The law on bends, walked. -/
import Derived.Test.YtigiddkodpcpkaaDba
import Derived.Test.YtigiddkodpcpkaaBnj
import Derived.Test.YtigiddkodpcpkaaCln
namespace Go.Proofs.Ytigiddkodpcpkaa
open Go.RowKit

theorem bd_is {n : Nat} {f : Nat → Int} {x : Int} (h : bdAF n f x = true) : bdB n f = true ∧ 0 ≤ x ∧ x ≤ 16 * ((n : Int) - 1) ∧ bdAI n f x = bdA f x.toNat := by
  unfold bdAF at h
  have h' := of_decide_eq_true h
  exact ⟨h'.1, h'.2.1, h'.2.2, by unfold bdAI; rw [if_pos h']⟩
theorem bd_round {n : Nat} {f : Nat → Int} {x : Int} (hb : bdB n f = true) (h0 : 0 ≤ x) (h1 : x ≤ 16 * ((n : Int) - 1)) : bdKI n f (bdA f x.toNat) = x ∧ bdKF n f (bdA f x.toNat) = true := by
  have H := bdB_parts hb
  have hlo := H.lo
  have e0 : bdA f 0 = 16 * f 0 := bdA_mul f 0
  have e1 := bdA_mul f (n - 1)
  have g0 : 16 * f 0 ≤ bdA f x.toNat := by
    by_cases h : x.toNat = 0
    · rw [h, e0]; omega
    · have := bdA_mono H (x := 0) (y := x.toNat) (by omega) (by omega)
      omega
  have g1 : bdA f x.toNat ≤ 16 * f (n - 1) := by
    by_cases h : x.toNat = 16 * (n - 1)
    · rw [h, e1]; omega
    · have := bdA_mono H (x := x.toNat) (y := 16 * (n - 1)) (by omega) (by omega)
      omega
  have hk := bdK_is H (y := bdA f x.toNat) (x := x.toNat) (Int.le_refl _) (16 * (n - 1)) (by omega) (by omega) (by
    by_cases h : x.toNat = 16 * (n - 1)
    · exact .inl h
    · exact .inr (bdA_step H (by omega)))
  unfold bdKI bdKF
  rw [if_pos ⟨hb, g0, g1⟩, hk]
  exact ⟨by omega, by simp [hb, g0, g1]⟩
theorem bd_next {n : Nat} {f : Nat → Int} {x : Int} (hb : bdB n f = true) (h0 : 0 ≤ x) (h1 : x < 16 * ((n : Int) - 1)) : bdAF n f (x + 1) = true ∧ bdA f x.toNat < bdAI n f (x + 1) := by
  have H := bdB_parts hb
  have hlo := H.lo
  unfold bdAF bdAI
  rw [if_pos ⟨hb, by omega, by omega⟩, show (x + 1).toNat = x.toNat + 1 by omega]
  exact ⟨by simp [hb]; omega, bdA_step H (by omega)⟩
theorem bd_last {n : Nat} {f : Nat → Int} {x : Int} (h1 : ¬ x < 16 * ((n : Int) - 1)) : bdAF n f (x + 1) = false := by
  unfold bdAF
  have : ¬ x + 1 ≤ 16 * ((n : Int) - 1) := by omega
  simp [this]

theorem own_px {w : World} {B n : Nat} {v : Value} {f : Nat → Int} (h : w.ownsRow B 2 1 v n (ints (fl f n))) (hn : 0 < n) : ∃ x c, v = .slice x n c ∧ n ≤ c ∧ Px x n f w := by
  obtain ⟨x, c, b, hv, ho, _⟩ := ow_fl h
  rcases h.2 with ⟨_, h0⟩ | ⟨g, c', cur, hv', _, _, hc, _⟩
  · omega
  rw [hv] at hv'
  cases hv'
  exact ⟨_, c, hv, hc, ho.px⟩

set_option maxRecDepth 100000 in
set_option maxHeartbeats 4000000 in
theorem fnBends_walk (a : Option Addr) (len cap : Nat) (w : World) (h : Bytes a len w) :
    Calls Try.prog 3 #[.slice a len cap] w fun e w' => e = .returned (.bool true) ∧ Below w.heap.size w w' := by
  have hg := big_any a len cap w
  have hdr := drawBendAt_any a len cap w h
  clear h
  by_cases hbig : 1048576 < len
  · rw [decide_eq_true hbig] at hg
    clear hdr hbig
    go_enter Try.func3, Try.ntmps3
    go_wp2_with fail
    refine hg.mono ?_
    rintro e w1 ⟨rfl, rfl⟩
    go_wp2_with fail
    go_ret
    exact ⟨rfl, Below.refl _ _⟩
  rw [decide_eq_false hbig] at hg
  clear hbig
  obtain ⟨i0, hi, hz0, hz1, hz2⟩ := info2
  go_enter Try.func3, Try.ntmps3
  go_wp2_with fail
  refine hg.mono ?_
  rintro e w0 ⟨rfl, rfl⟩
  clear hg
  go_wp2_with fail
  refine hdr.mono ?_
  rintro e w1 ⟨b, n, c, f, x, rfl, hn70, hnc, hr, hb⟩
  have HR := hide hr
  have HB1 := hide hb
  have cS := specBendAt_any (some ⟨b, 0, none⟩) n c f (by omega) x w1 hr.px
  clear hdr hr hb
  cases hF : bdAF n f x
  · rw [hF] at cS
    clear hF
    generalize bdAI n f x = Y at *
    go_wp2_with fail
    refine cS.mono ?_
    rintro e w2 ⟨rfl, m, hm⟩
    have HB2 : Hid (Below w0.heap.size w0 w2) := by show Below _ _ _; rw [hm]; exact below_drewN HB1.out m
    clear hm cS
    go_wp2_with fail
    go_ret
    exact ⟨rfl, HB2.out⟩
  obtain ⟨hB, x0, x1, hY⟩ := bd_is hF
  obtain ⟨r1, r2⟩ := bd_round hB x0 x1
  have HNX : Hid (x < 16 * ((n : Int) - 1) → bdAF n f (x + 1) = true ∧ bdA f x.toNat < bdAI n f (x + 1)) := fun e => bd_next hB x0 e
  have HLA : Hid (¬ x < 16 * ((n : Int) - 1) → bdAF n f (x + 1) = false) := fun e => bd_last e
  have hlo := (bdB_parts hB).lo
  rw [hF, hY] at cS
  have cI := fun x' c' hc w' h => implBendAt_any x' n c' f (by omega) x hc w' h
  simp only [hF, hY] at cI
  have cB := fun x' c' hc w' h => implBendBack_any x' n c' f (by omega) (bdA f x.toNat) hc w' h
  simp only [r1, r2] at cB
  have cN := fun x' c' hc w' h => implBendAt_any x' n c' f (by omega) (x + 1) hc w' h
  clear hF hY r1 r2 hB
  generalize bdA f x.toNat = Y at *
  have hx1 : IntKind.i64.wrap (x + 1) = x + 1 := by rw [IntKind.wrap_i64]; omega
  have qY : (Y != Y) = false := by simp
  have qx : (x != x) = false := by simp
  go_wp2_with fail
  refine cS.mono ?_
  rintro e w2 ⟨rfl, m, hm⟩
  have HB2 : Hid (Below w0.heap.size w0 w2) := by show Below _ _ _; rw [hm]; exact below_drewN HB1.out m
  have HR2 : Hid (Row b n f w2) := by show Row b n f w2; rw [hm]; exact HR.out
  clear hm cS HB1 HR
  go_wp2_with (at_builtin; refine wpList_append_own _ rfl _ _ 24 rfl w2.heap.size 2 i0 (.int .i64 0) 1 8 Try.underlying24 hi hz0 hz1 hz2 rfl (by decide) _ _ _ rfl (World.ownsRow_made w2 #[] 0 (Nat.le_refl _) (Nat.zero_le _) rfl) ⟨b, 0, none⟩ n c (ints (fl f n)) rfl ?qc1 ?qc2 ?qc3 ?qc4 ?qc5 ?qc6 ?_)
  case qc1 => simp [ints, fl_len]
  case qc2 =>
    intro j u hj
    obtain ⟨hj', rfl⟩ := ints_fl f n j u hj
    rw [Addr.add_lit]
    refine Lib.cell?_alloc_some _ ?_
    have := (HR2.out j hj').1
    simpa using this
  case qc3 => intro u hu; simp [ints] at hu; obtain ⟨x, _, rfl⟩ := hu; rfl
  case qc4 => unfold maxLen; omega
  case qc5 => omega
  case qc6 => simp
  intro v' w3 hown hgrow hnil
  have hown' : w3.ownsRow w2.heap.size 2 1 v' n (ints (fl f n)) := by simpa using hown
  have hb3 : Below w2.heap.size w2 w3 := ((Below.refl _ w2).alloc (Nat.le_refl _) _).grown hgrow (by simp) (by intro k hk; simp [Value.ownBlock] at hk; omega)
  obtain ⟨xa, ca, rfl, hca, hpa⟩ := own_px hown' (by omega)
  have HB3 := hide (bnext HB2.out (Nat.le_refl _) hb3)
  have hblt : b < w2.heap.size := World.block_lt_of_cell? w2 ⟨b, 0, none⟩ (HR2.out 0 (by omega)).1
  have HR3 := hide (HR2.out.below hb3 hblt)
  have cI3 := cI xa ca hca w3 hpa
  have hlt3 : b < w3.heap.size := Nat.lt_of_lt_of_le hblt hb3.size
  clear hown hown' hgrow hnil hb3 hpa HB2 HR2 cI hblt
  go_wp2_with fail
  refine cI3.mono ?_
  rintro e w4 ⟨rfl, hb⟩
  have HB4 := hide (bnext HB3.out (Nat.le_refl _) hb)
  have HR4 := hide (HR3.out.below hb hlt3)
  have hlt4 : b < w4.heap.size := Nat.lt_of_lt_of_le hlt3 hb.size
  clear cI3 hb HB3 HR3 hlt3
  go_wp2_with (at_builtin; refine wpList_append_own _ rfl _ _ 24 rfl w4.heap.size 2 i0 (.int .i64 0) 1 8 Try.underlying24 hi hz0 hz1 hz2 rfl (by decide) _ _ _ rfl (World.ownsRow_made w4 #[] 0 (Nat.le_refl _) (Nat.zero_le _) rfl) ⟨b, 0, none⟩ n c (ints (fl f n)) rfl ?qc1 ?qc2 ?qc3 ?qc4 ?qc5 ?qc6 ?_)
  case qc1 => simp [ints, fl_len]
  case qc2 =>
    intro j u hj
    obtain ⟨hj', rfl⟩ := ints_fl f n j u hj
    rw [Addr.add_lit]
    refine Lib.cell?_alloc_some _ ?_
    have := (HR4.out j hj').1
    simpa using this
  case qc3 => intro u hu; simp [ints] at hu; obtain ⟨x, _, rfl⟩ := hu; rfl
  case qc4 => unfold maxLen; omega
  case qc5 => omega
  case qc6 => simp
  intro v5 w5 hown hgrow hnil
  have hown' : w5.ownsRow w4.heap.size 2 1 v5 n (ints (fl f n)) := by simpa using hown
  have hb5 : Below w4.heap.size w4 w5 := ((Below.refl _ w4).alloc (Nat.le_refl _) _).grown hgrow (by simp) (by intro k hk; simp [Value.ownBlock] at hk; omega)
  obtain ⟨xb, cb, rfl, hcb, hpb⟩ := own_px hown' (by omega)
  have HB5 := hide (bnext HB4.out (Nat.le_refl _) hb5)
  have HR5 := hide (HR4.out.below hb5 hlt4)
  have cB5 := cB xb cb hcb w5 hpb
  have hlt5 : b < w5.heap.size := Nat.lt_of_lt_of_le hlt4 hb5.size
  clear hown hown' hgrow hnil hb5 hpb HB4 HR4 cB hlt4
  go_wp2_with fail
  refine cB5.mono ?_
  rintro e w6 ⟨rfl, hb⟩
  have HB6 := hide (bnext HB5.out (Nat.le_refl _) hb)
  have HR6 := hide (HR5.out.below hb hlt5)
  have cN6 := cN (some ⟨b, 0, none⟩) c hnc w6 HR6.out.px
  have hn1 : IntKind.i64.wrap ((n : Int) - 1) = (n : Int) - 1 := by rw [IntKind.wrap_i64]; omega
  have hn2 : IntKind.i64.wrap (16 * ((n : Int) - 1)) = 16 * ((n : Int) - 1) := by rw [IntKind.wrap_i64]; omega
  clear cB5 hb HB5 HR5 hlt5 cN HR6
  by_cases hlt : x < 16 * ((n : Int) - 1)
  · obtain ⟨n1, n2⟩ := HNX.out hlt
    rw [n1] at cN6
    generalize bdAI n f (x + 1) = Z at *
    clear n1 HNX HLA
    go_wp2_with fail
    refine cN6.mono ?_
    rintro e w7 ⟨rfl, hb⟩
    have HB7 := hide (bnext HB6.out (Nat.le_refl _) hb)
    clear cN6 hb HB6
    go_wp2_with fail
    go_ret
    exact ⟨rfl, HB7.out⟩
  · have n1 := HLA.out (by first | exact hlt | exact Int.not_lt.1 hlt)
    have HD : Hid (decide (x < 16 * ((n : Int) - 1)) = false) := decide_eq_false hlt
    rw [n1] at cN6
    generalize bdAI n f (x + 1) = Z at *
    clear n1 HNX HLA
    go_wp2_with fail
    refine cN6.mono ?_
    rintro e w7 ⟨rfl, hb⟩
    have HB7 := hide (bnext HB6.out (Nat.le_refl _) hb)
    clear cN6 hb HB6
    go_wp2_with fail
    go_ret
    refine ⟨?_, HB7.out⟩
    show Ending.returned (Value.bool (!decide (x < 16 * ((n : Int) - 1)))) = _
    rw [HD.out]
    rfl

end Go.Proofs.Ytigiddkodpcpkaa
