/- Blending: lists of lists of pairs; the program. -/
import Derived.Test.YtfgjooddolnifaaGrd
import Derived.Test.YtfgjooddolnifaaTon
namespace Go.Proofs.Ytfgjooddolnifaa
open Ieee Go.RowKit
attribute [local go_sem] run_store_float alloc_drewN setCell_drewN shape?_drewN run_fadd

/-- a list of lists of pairs: where they lie, how many there are, their floats -/
def PxS (a : Option Addr) (m : Nat) (ad : Nat → Option Addr) (ln cp : Nat → Nat) (F : Nat → Nat → Nat) (w : World) : Prop :=
  PxV a m (fun i => .slice (ad i) (ln i) (cp i)) w ∧ ∀ i, i < m → PxV (ad i) (ln i * 2) (flt (F i)) w
theorem PxS.below {a : Option Addr} {m : Nat} {ad : Nat → Option Addr} {ln cp : Nat → Nat} {F : Nat → Nat → Nat} {w w' : World} (h : PxS a m ad ln cp F w) (hb : Below w.heap.size w w') : PxS a m ad ln cp F w' :=
  ⟨h.1.below hb, fun i hi => (h.2 i hi).below hb⟩
theorem PxS.at {a : Option Addr} {m i : Nat} {ad : Nat → Option Addr} {ln cp : Nat → Nat} {F : Nat → Nat → Nat} {w : World} (h : PxS a m ad ln cp F w) (hi : i < m) :
    ∃ b off, a = some ⟨b, off, none⟩ ∧ w.cell? ⟨b, off + i, none⟩ = some (.slice (ad i) (ln i) (cp i)) ∧ w.cell? ⟨b, off, none⟩ = some (.slice (ad 0) (ln 0) (cp 0)) := by
  obtain ⟨b, off, ha, _, hc⟩ := h.1.at (by omega)
  exact ⟨b, off, ha, hc i hi, hc 0 (by omega)⟩

/-- can they be blended -/
def canB (m : Nat) (ln : Nat → Nat) : Bool := inB m 1 32 && (decide (ln 0 ≤ 4096) && allG (fun i => decide (ln i = ln 0)) m)
def blN (m : Nat) (ln : Nat → Nat) : Nat := if canB m ln = true then ln 0 else 0
/-- a size, with one NaN for all -/
def csz (a b : Nat) : Nat := cop .add (cop .mul a a) (cop .mul b b)
theorem isSize_csz {a b r : Nat} (h : IsSize a b r) : same r (csz a b) := by
  obtain ⟨p, q, h1, h2, h3⟩ := h
  exact h3.cop aAdd (h1.cop aMul (same_rfl _) (same_rfl _)) (h2.cop aMul (same_rfl _) (same_rfl _))
/-- the sums over the first i coils -/
def blF (F : Nat → Nat → Nat) : Nat → Nat → Nat
  | 0 => fun _ => 0
  | i + 1 => fun k => cop .add (blF F i k) (csz (F i (k * 2)) (F i (k * 2 + 1)))
def blP (F : Nat → Nat → Nat) (m k r : Nat) : Prop := same r (blF F m k)
theorem blP_same {F : Nat → Nat → Nat} {m k r r' : Nat} (h : blP F m k r) (h' : blP F m k r') : same r r' := same.trans h (same.symm h')
theorem PartP.poke {b n : Nat} {P P' : Nat → Nat → Prop} {w : World} (h : PartP b n n P w) (j z : Nat) (hz : P' j z) (ho : ∀ q y, q ≠ j → P q y → P' q y) : PartP b n n P' (w.setCell ⟨b, j, none⟩ (.float .f64 z)) := by
  intro q hq
  obtain ⟨⟨y, hy, e⟩, fr⟩ := h q hq
  refine ⟨?_, by simpa using fr⟩
  by_cases hj : q = j
  · subst hj
    exact ⟨z, World.cell?_setCell_same _ _ _ hy, fun _ => hz⟩
  · exact ⟨y, by rw [World.cell?_setCell_other _ _ _ _ (by simp; try omega)]; exact hy, fun hl => ho q y hj (e hl)⟩
/-- in the midst of a coil -/
def blM (F : Nat → Nat → Nat) (i j k : Nat) : Nat := if k < j then blF F (i + 1) k else blF F i k

theorem canBlend_any (a : Option Addr) (m cap : Nat) (ad : Nat → Option Addr) (ln cp : Nat → Nat) (F : Nat → Nat → Nat) (hm : m ≤ 1048576) (w : World) (h : PxS a m ad ln cp F w) :
    Calls Try.prog 40 #[.slice a m cap] w fun e w' => e = .returned (.bool (canB m ln)) ∧ w' = w := by
  have hI := n_within_any (m : Int) 1 32
  unfold canB
  cases hn : inB m 1 32
  · rw [hn] at hI
    clear h
    go_enter Try.func40, Try.ntmps40
    go_wp2_with fail
    refine (hI _).mono ?_
    rintro e w1 ⟨rfl, rfl⟩
    go_wp2_with fail
    go_ret
    exact ⟨rfl, rfl⟩
  · rw [hn] at hI
    have hn2 : 1 ≤ m := by unfold inB at hn; simp at hn; omega
    obtain ⟨b, off, rfl, h0, -⟩ := h.at (i := 0) (by omega)
    by_cases hl : ln 0 ≤ 4096
    · have hl' : ¬ (4096 : Int) < (ln 0 : Int) := by omega
      have hd : decide (ln 0 ≤ 4096) = true := decide_eq_true hl
      rw [hd, Bool.true_and, Bool.true_and]
      rw [Nat.add_zero] at h0
      have HS := hide h
      clear h hn hd
      go_enter Try.func40, Try.ntmps40
      go_wp2_with fail
      refine (hI _).mono ?_
      rintro e w1 ⟨rfl, rfl⟩
      clear hI
      go_wp2_with fail
      go_loop [4, 18] (fun _ i => ∃ k : Nat, k ≤ m ∧ i = .int .i64 k ∧ allG (fun i => decide (ln i = ln 0)) k = true) (fun _ i => m - (intOf i).toNat)
      case atStart => exact ⟨0, by omega, rfl, rfl⟩
      case round =>
        obtain ⟨k, hk, rfl, ha⟩ := hrel
        by_cases hlt : k < m
        · obtain ⟨_, _, e, hc, -⟩ := HS.out.at hlt
          cases e
          by_cases he : ln k = ln 0
          · have HA : Hid (allG (fun i => decide (ln i = ln 0)) (k + 1) = true) := by
              show _ = _
              simp only [allG, ha, he, decide_true, Bool.and_self]
            have hne : ((ln k : Int) != (ln 0 : Int)) = false := by simp [he]
            clear HS ha he
            go_wp2
            exact ⟨⟨k + 1, by omega, rfl, HA.out⟩, by simp [intOf]; omega⟩
          · have hA : allG (fun i => decide (ln i = ln 0)) m = false := allG_no k hlt (by simp [he])
            have hne : ((ln k : Int) != (ln 0 : Int)) = true := by simp; omega
            have HA := hide hA
            clear HS ha he hA
            go_wp2
            go_ret
            exact ⟨by rw [HA.out]; rfl, rfl⟩
        · obtain rfl : k = m := by omega
          have HA := hide ha
          clear HS ha
          go_wp2
          go_ret
          exact ⟨by rw [HA.out]; rfl, rfl⟩
    · have hl' : (4096 : Int) < (ln 0 : Int) := by omega
      have hd : decide (ln 0 ≤ 4096) = false := decide_eq_false hl
      rw [hd, Bool.false_and, Bool.and_false]
      rw [Nat.add_zero] at h0
      clear h hn hd
      go_enter Try.func40, Try.ntmps40
      go_wp2_with fail
      refine (hI _).mono ?_
      rintro e w1 ⟨rfl, rfl⟩
      clear hI
      go_wp2_with fail
      go_ret
      exact ⟨rfl, rfl⟩

set_option maxRecDepth 100000 in
set_option maxHeartbeats 2000000 in
theorem implBlend_any (a : Option Addr) (m cap : Nat) (ad : Nat → Option Addr) (ln cp : Nat → Nat) (F : Nat → Nat → Nat) (hm : m ≤ 1048576) (w : World) (h : PxS a m ad ln cp F w) :
    Calls Try.prog 11 #[.slice a m cap] w (LsP (blN m ln) (blN m ln) (blP F m) w) := by
  have cC := canBlend_any a m cap ad ln cp F hm w h
  unfold blN
  cases hc : canB m ln
  · rw [hc] at cC
    rw [if_neg (by simp)]
    clear h
    go_enter Try.func11, Try.ntmps11
    go_wp2_with fail
    refine cC.mono ?_
    rintro e w1 ⟨rfl, rfl⟩
    go_wp2_with fail
    go_ret
    exact ⟨_, _, 0, fun _ => 0, rfl, .inl rfl, .inl rfl, Below.refl _ _, fun j hj => absurd hj (Nat.not_lt_zero _)⟩
  · rw [hc] at cC
    rw [if_pos rfl]
    have hc' := hc
    unfold canB at hc'
    rw [Bool.and_eq_true, Bool.and_eq_true, decide_eq_true_iff] at hc'
    obtain ⟨h1, h2, h3⟩ := hc'
    have hm1 : 1 ≤ m := by unfold inB at h1; simp at h1; omega
    have HL : Hid (∀ i, i < m → ln i = ln 0) := fun i hi => of_decide_eq_true (allG_at h3 i hi)
    obtain ⟨b, off, rfl, h0, -⟩ := h.at (i := 0) (by omega)
    rw [Nat.add_zero] at h0
    have hmk := make_fs (ln 0) (by omega) w
    have HS := hide h
    generalize hn : ln 0 = n at *
    clear h hc h1 h3 hn
    go_enter Try.func11, Try.ntmps11
    go_wp2_with fail
    refine cC.mono ?_
    rintro e w ⟨rfl, rfl⟩
    clear cC
    go_wp2_with fail
    go_loopw [5, 6, 7, 18] (fun _ _ _ i wr => ∃ k : Nat, k ≤ m ∧ i = .int .i64 k ∧ PartP w.heap.size n n (fun q z => same z (blF F k q)) wr ∧ Below w.heap.size w wr ∧ w.heap.size < wr.heap.size) (fun _ _ _ i _ => m - (intOf i).toNat)
    case atStart => exact ⟨0, by omega, rfl, fun j hj => ⟨⟨0, ((rowF_new n 31 w) j hj).1, fun _ => same_rfl _⟩, ((rowF_new n 31 w) j hj).2⟩, bnew _ _, by simp⟩
    case round =>
      obtain ⟨k, hk, rfl, hp, hb, hs⟩ := hrel
      clear hmk
      by_cases hlt : k < m
      · obtain ⟨_, _, e, hcc, -⟩ := HS.out.at hlt
        cases e
        have hck := cell_kept hb hcc
        have hln : ln k = n := HL.out k hlt
        rw [hln] at hck
        have HX := hide (HS.out.2 k hlt)
        rw [hln] at HX
        have HP0 := hide hp
        have HB0 := hide hb
        have HS0 := hide hs
        clear hp hb hs hcc hln
        go_wp2_with fail
        go_loopw [6, 7, 24] (fun _ _ i wq => ∃ j : Nat, j ≤ n ∧ i = .int .i64 j ∧ PartP w.heap.size n n (fun q z => same z (blM F k j q)) wq ∧ Below w.heap.size w wq ∧ w.heap.size < wq.heap.size) (fun _ _ i _ => n - (intOf i).toNat)
        case atStart => exact ⟨0, by omega, rfl, fun q hq => by simpa [blM] using HP0.out q hq, HB0.out, HS0.out⟩
        case round =>
          obtain ⟨j, hj, rfl, hp, hb, hs⟩ := hrel
          by_cases hjn : j < n
          · obtain ⟨b', off', he, hbl, hc'⟩ := (HX.out.below hb).at (by omega)
            have z1 : wr.cell? ⟨b', off' + j * 2, none⟩ = some (.float .f64 (F k (j * 2))) := hc' (j * 2) (by omega)
            have z2 : wr.cell? ⟨b', off' + j * 2 + 1, none⟩ = some (.float .f64 (F k (j * 2 + 1))) := hc' (j * 2 + 1) (by omega)
            obtain ⟨⟨x, hx, ex⟩, fx⟩ := hp j hjn
            have ex' : same x (blF F k j) := by
              have := ex hjn
              simpa [blM] using this
            have EX := hide ex'
            have HPj := hide hp
            have HBj := hide hb
            have HSj := hide hs
            have hbx := (bnew wr (.cells #[.float .f64 (F k (j * 2)), .float .f64 (F k (j * 2 + 1))] 34)).drew
            have HW := hide hbx
            have hsz := hs
            clear HX HP0 HB0 HS0 hc' hp hb hs ex ex' hbx hck
            rw [he]
            clear he
            go_wp2_with fail
            go_region_with (first
              | (go_at_call 39; (with_reducible refine (size_impl _ _ _).mono ?_); rintro e wA ⟨⟨r, rfl, hr⟩, hbA⟩; have HA := hide (bnext HW.out (Nat.le_refl _) hbA); have xA := cell_kept HA.out hx; have fA := froz_kept HA.out hx fx))
            all_goals
              have hres := fval_res .add x r wA
              have hE : same (fval .add x r wA) (blM F k (j + 1) j) := by
                have := hres.cop aAdd EX.out (isSize_csz hr)
                simpa [blM, blF] using this
              have HPt := hide (PartP.poke (P' := fun q z => same z (blM F k (j + 1) q)) (HPj.out.below HA.out hsz) j (fval .add x r wA) hE (fun q y hq hy => by
                have e : blM F k (j + 1) q = blM F k j q := by
                  unfold blM
                  by_cases h1 : q < j
                  · rw [if_pos h1, if_pos (by omega)]
                  · rw [if_neg h1, if_neg (by omega)]
                show same y (blM F k (j + 1) q)
                rw [e]; exact hy))
              have HBt := hide ((bnext HBj.out (Nat.le_refl _) HA.out).setCell (p := ⟨w.heap.size, j, none⟩) (Nat.le_refl _) (.float .f64 (fval .add x r wA)))
              have HSt : Hid (w.heap.size < (wA.setCell ⟨w.heap.size, j, none⟩ (.float .f64 (fval .add x r wA))).heap.size) := by
                have := HA.out.size
                show _ < _
                simp
                omega
              clear hres hE HPj HBj HSj EX HW hr hbA HA xA fA z1 z2 hx fx hbl
              go_wp2_with fail
              exact ⟨⟨j + 1, by omega, rfl, HPt.out, below_drewN HBt.out _, HSt.out⟩, by simp [intOf]; omega⟩
          · obtain rfl : j = n := by omega
            clear HX HP0 HB0 HS0
            go_wp2_with fail
            exact ⟨⟨k + 1, by omega, rfl, fun q hq => by simpa [blM, hq] using hp q hq, hb, hs⟩, by simp [intOf]; omega⟩
      · obtain rfl : k = m := by omega
        clear HS HL
        go_wp2
        go_ret
        obtain ⟨r, hr, hP⟩ := PartP.row hp
        exact ⟨_, _, w.heap.size, r, rfl, hr.ow, .inr (Nat.le_refl _), hb, hP⟩

end Go.Proofs.Ytfgjooddolnifaa
