/- The specification's GatherOk. -/
import Derived.Test.YtoomnfjcbdghgaaGpl
import Derived.Test.YtoomnfjcbdghgaaPcs
import Derived.Test.YtoomnfjcbdghgaaHas
namespace Go.Proofs.Ytoomnfjcbdghgaa
open Go.RowKit

theorem cntP_gt (E : Nat → SPart) (id : Int) : ∀ r p j, j < r → (∀ x, x ≤ j → (E (p + x)).f0 = id) → j < cntP E id p r
  | 0, _, _, h, _ => by omega
  | r + 1, p, j, h, hx => by
    simp only [cntP]
    rw [if_pos (by simpa using hx 0 (by omega))]
    cases j with
    | zero => omega
    | succ j =>
      have := cntP_gt E id r (p + 1) j (by omega) (fun x hx' => by rw [show p + 1 + x = p + (x + 1) by omega]; exact hx (x + 1) (by omega))
      omega
theorem nodup_fl' (f : Nat → Int) : ∀ n, (fl f n).Nodup ↔ ∀ i, i < n → hasN f (f i) i = false
  | 0 => by simp [fl]
  | n + 1 => by
    simp only [fl]
    rw [List.nodup_append, nodup_fl' f n]
    constructor
    · rintro ⟨h1, _, h3⟩ i hi
      by_cases e : i = n
      · subst e
        cases hh : hasN f (f i) i with
        | false => rfl
        | true =>
          obtain ⟨k, hk, he⟩ := hasN_ex hh
          exfalso
          have hm : f k ∈ fl f i := by
            have := fl_at f i k hk
            rw [List.getD_eq_getElem?_getD, List.getElem?_eq_getElem (by rw [fl_len]; exact hk)] at this
            simp only [Option.getD_some] at this
            rw [← this]; exact List.getElem_mem _
          exact h3 _ hm _ (by simp) he
      · exact h1 i (by omega)
    · intro h
      refine ⟨fun i hi => h i (by omega), by simp, fun x hx y hy => ?_⟩
      simp only [List.mem_singleton] at hy
      subst hy
      obtain ⟨j, hj, rfl⟩ := List.getElem_of_mem hx
      rw [fl_len] at hj
      have := fl_at f n j hj
      rw [List.getD_eq_getElem?_getD, List.getElem?_eq_getElem (by rw [fl_len]; exact hj)] at this
      simp only [Option.getD_some] at this
      rw [this]
      exact hasN_no (h n (by omega)) j hj
theorem fl_mem' (f : Nat → Int) (n : Nat) (x : Int) : x ∈ fl f n ↔ hasN f x n = true := by
  constructor
  · intro hx
    obtain ⟨j, hj, rfl⟩ := List.getElem_of_mem hx
    rw [fl_len] at hj
    have := fl_at f n j hj
    rw [List.getD_eq_getElem?_getD, List.getElem?_eq_getElem (by rw [fl_len]; exact hj)] at this
    simp only [Option.getD_some] at this
    exact hasN_yes this.symm hj
  · intro h
    obtain ⟨k, hk, he⟩ := hasN_ex h
    have := fl_at f n k hk
    rw [List.getD_eq_getElem?_getD, List.getElem?_eq_getElem (by rw [fl_len]; exact hk)] at this
    simp only [Option.getD_some] at this
    rw [← he, ← this]; exact List.getElem_mem _
/-- the Ids are right: as the specification asks -/
def idO (f1 : Nat → Int) (f2 : Nat → Int) (n2 k : Nat) : Prop := ∀ i, i < k → inB (f1 i) 0 1000000 = true ∧ hasN f1 (f1 i) i = false ∧ hasN f2 (f1 i) n2 = false
def idD (f2 : Nat → Int) (k : Nat) : Prop := ∀ i, i < k → inB (f2 i) 0 1000000 = true ∧ hasN f2 (f2 i) i = false
theorem ids_iff (n1 : Nat) (f1 : Nat → Int) (n2 : Nat) (f2 : Nat → Int) : ((alW f1 0 1000000 n1 && alW f2 0 1000000 n2) && unlB (fl f1 n1 ++ fl f2 n2)) = true ↔ idO f1 f2 n2 n1 ∧ idD f2 n2 := by
  unfold unlB
  simp only [Bool.and_eq_true, decide_eq_true_eq]
  rw [alW_iff', alW_iff', List.nodup_append, nodup_fl', nodup_fl']
  constructor
  · rintro ⟨⟨h1, h2⟩, h3, h4, h5⟩
    refine ⟨fun i hi => ⟨h1 i hi, h3 i hi, ?_⟩, fun i hi => ⟨h2 i hi, h4 i hi⟩⟩
    cases hh : hasN f2 (f1 i) n2 with
    | false => rfl
    | true => exact absurd rfl (h5 (f1 i) ((fl_mem' f1 n1 _).2 (hasN_yes rfl hi)) (f1 i) ((fl_mem' f2 n2 _).2 hh))
  · rintro ⟨h1, h2⟩
    refine ⟨⟨fun i hi => (h1 i hi).1, fun i hi => (h2 i hi).1⟩, fun i hi => (h1 i hi).2.1, fun i hi => (h2 i hi).2, fun x hx y hy e => ?_⟩
    subst e
    obtain ⟨k, hk, he⟩ := hasN_ex ((fl_mem' f1 n1 _).1 hx)
    have := (h1 k hk).2.2
    rw [he, (fl_mem' f2 n2 _).1 hy] at this
    cases this
theorem gaB_t {n1 : Nat} {f1 : Nat → Int} {n2 : Nat} {f2 : Nat → Int} {m : Nat} {E : Nat → SPart} (h1 : n1 ≤ 16) (h2 : n2 ≤ 4096) (h3 : idO f1 f2 n2 n1) (h4 : idD f2 n2) : gaB n1 f1 n2 f2 m E = sgW f1 E m 0 n1 0 := by
  unfold gaB
  have := (ids_iff n1 f1 n2 f2).2 ⟨h3, h4⟩
  rw [Bool.and_eq_true] at this
  rw [decide_eq_true h1, decide_eq_true h2, this.1, this.2]; simp
theorem gaB_f {n1 : Nat} {f1 : Nat → Int} {n2 : Nat} {f2 : Nat → Int} {m : Nat} {E : Nat → SPart} (h : ¬ (idO f1 f2 n2 n1 ∧ idD f2 n2)) : gaB n1 f1 n2 f2 m E = false := by
  cases hg : gaB n1 f1 n2 f2 m E with
  | false => rfl
  | true =>
    exfalso
    unfold gaB at hg
    simp only [Bool.and_eq_true] at hg
    exact h ((ids_iff n1 f1 n2 f2).1 (by simp only [Bool.and_eq_true]; exact ⟨hg.1.1.2, hg.1.2⟩))

set_option maxRecDepth 100000 in
set_option maxHeartbeats 8000000 in
theorem specGatherOk_any (b1 o1 n1 c1' : Nat) (f1 : Nat → Int) (b2 o2 n2 c2' : Nat) (f2 : Nat → Int) (a3 : Option Addr) (m c3 : Nat) (E : Nat → SPart) (hn1 : n1 ≤ 1048576) (hn2 : n2 ≤ 1048576) (hm : m ≤ 1048576) (hc1 : n1 ≤ c1') (hc2 : n2 ≤ c2') (hS : byS E m ≤ 1048576) (w : World)
    (h1 : ∀ k, k < n1 → w.cell? ⟨b1, o1 + k, none⟩ = some (.int .i64 (f1 k))) (h2 : ∀ k, k < n2 → w.cell? ⟨b2, o2 + k, none⟩ = some (.int .i64 (f2 k))) (h3 : PxG a3 (m * 4) (FPart E) w) :
    Calls Try.prog 18 #[vGa (some ⟨b1, o1, none⟩) n1 c1' (some ⟨b2, o2, none⟩) n2 c2' a3 m c3] w fun e w' => e = .returned (.bool (gaB n1 f1 n2 f2 m E)) ∧ Below w.heap.size w w' := by
  have HB0 : Hid (Below w.heap.size w (w.alloc (.cells #[.slice (some ⟨b1, o1, none⟩) n1 c1', .slice (some ⟨b2, o2, none⟩) n2 c2', .slice a3 m c3] 34))) := bnew _ _
  have z0 : (w.alloc (.cells #[.slice (some ⟨b1, o1, none⟩) n1 c1', .slice (some ⟨b2, o2, none⟩) n2 c2', .slice a3 m c3] 34)).cell? ⟨w.heap.size, 0, none⟩ = some (.slice (some ⟨b1, o1, none⟩) n1 c1') := by simp [go_sem]
  have z1 : (w.alloc (.cells #[.slice (some ⟨b1, o1, none⟩) n1 c1', .slice (some ⟨b2, o2, none⟩) n2 c2', .slice a3 m c3] 34)).cell? ⟨w.heap.size, 1, none⟩ = some (.slice (some ⟨b2, o2, none⟩) n2 c2') := by simp [go_sem]
  have z2 : (w.alloc (.cells #[.slice (some ⟨b1, o1, none⟩) n1 c1', .slice (some ⟨b2, o2, none⟩) n2 c2', .slice a3 m c3] 34)).cell? ⟨w.heap.size, 2, none⟩ = some (.slice a3 m c3) := by simp [go_sem]
  have HZ0 : Hid (∀ w', Below (w.alloc (.cells #[.slice (some ⟨b1, o1, none⟩) n1 c1', .slice (some ⟨b2, o2, none⟩) n2 c2', .slice a3 m c3] 34)).heap.size (w.alloc (.cells #[.slice (some ⟨b1, o1, none⟩) n1 c1', .slice (some ⟨b2, o2, none⟩) n2 c2', .slice a3 m c3] 34)) w' → w'.cell? ⟨w.heap.size, 0, none⟩ = some (.slice (some ⟨b1, o1, none⟩) n1 c1')) := fun w' hb => cell_kept' hb z0
  have HZ1 : Hid (∀ w', Below (w.alloc (.cells #[.slice (some ⟨b1, o1, none⟩) n1 c1', .slice (some ⟨b2, o2, none⟩) n2 c2', .slice a3 m c3] 34)).heap.size (w.alloc (.cells #[.slice (some ⟨b1, o1, none⟩) n1 c1', .slice (some ⟨b2, o2, none⟩) n2 c2', .slice a3 m c3] 34)) w' → w'.cell? ⟨w.heap.size, 1, none⟩ = some (.slice (some ⟨b2, o2, none⟩) n2 c2')) := fun w' hb => cell_kept' hb z1
  have HZ2 : Hid (∀ w', Below (w.alloc (.cells #[.slice (some ⟨b1, o1, none⟩) n1 c1', .slice (some ⟨b2, o2, none⟩) n2 c2', .slice a3 m c3] 34)).heap.size (w.alloc (.cells #[.slice (some ⟨b1, o1, none⟩) n1 c1', .slice (some ⟨b2, o2, none⟩) n2 c2', .slice a3 m c3] 34)) w' → w'.cell? ⟨w.heap.size, 2, none⟩ = some (.slice a3 m c3)) := fun w' hb => cell_kept' hb z2
  have H1 : Hid (∀ w', Below w.heap.size w w' → ∀ k, k < n1 → w'.cell? ⟨b1, o1 + k, none⟩ = some (.int .i64 (f1 k))) := fun w' hb k hk => cell_kept' hb (h1 k hk)
  have H2 : Hid (∀ w', Below w.heap.size w w' → ∀ k, k < n2 → w'.cell? ⟨b2, o2 + k, none⟩ = some (.int .i64 (f2 k))) := fun w' hb k hk => cell_kept' hb (h2 k hk)
  have H3 : Hid (∀ w', Below w.heap.size w w' → PxG a3 (m * 4) (FPart E) w') := fun w' hb => h3.below hb
  have HVT : Hid (n1 ≤ 16 → n2 ≤ 4096 → idO f1 f2 n2 n1 → idD f2 n2 → gaB n1 f1 n2 f2 m E = sgW f1 E m 0 n1 0) := fun a b c d => gaB_t a b c d
  have HVF : Hid (¬ (idO f1 f2 n2 n1 ∧ idD f2 n2) → gaB n1 f1 n2 f2 m E = false) := gaB_f
  have HV : Hid (gaB n1 f1 n2 f2 m E = (decide (n1 ≤ 16) && decide (n2 ≤ 4096) && (alW f1 0 1000000 n1 && alW f2 0 1000000 n2) && unlB (fl f1 n1 ++ fl f2 n2) && sgW f1 E m 0 n1 0)) := rfl
  clear h1 h2 h3
  generalize gaB n1 f1 n2 f2 m E = V at *
  generalize hwa : w.alloc (.cells #[.slice (some ⟨b1, o1, none⟩) n1 c1', .slice (some ⟨b2, o2, none⟩) n2 c2', .slice a3 m c3] 34) = wa at *
  have HBW : Hid (∀ w', Below wa.heap.size wa w' → Below w.heap.size w w') := fun w' hb => bnext HB0.out (Nat.le_refl _) hb
  by_cases hq1 : (16 : Int) < n1
  · have HF : Hid (V = false) := by show _ = _; rw [HV.out, decide_eq_false (show ¬ n1 ≤ 16 by omega)]; simp
    clear HV H1 H2 H3 HZ0 HZ1 HZ2 HVT HVF HBW
    go_enter Try.func18, Try.ntmps18
    go_wp2_with fail
    go_ret
    exact ⟨by rw [HF.out]; rfl, HB0.out⟩
  by_cases hq2 : (4096 : Int) < n2
  · have HF : Hid (V = false) := by show _ = _; rw [HV.out, decide_eq_false (show ¬ n2 ≤ 4096 by omega)]; simp
    clear HV H1 H2 H3 HZ0 HZ1 HZ2 HVT HVF HBW
    go_enter Try.func18, Try.ntmps18
    go_wp2_with fail
    go_ret
    exact ⟨by rw [HF.out]; rfl, HB0.out⟩
  by_cases hq3 : (1024 : Int) < m
  · have HF : Hid (V = false) := by show _ = _; rw [HV.out, sgW_far n1 0 0 (by omega)]; simp
    clear HV H1 H2 H3 HZ0 HZ1 HZ2 HVT HVF HBW
    go_enter Try.func18, Try.ntmps18
    go_wp2_with fail
    go_ret
    exact ⟨by rw [HF.out]; rfl, HB0.out⟩
  have HT := hide (HVT.out (by omega) (by omega))
  clear HV HVT
  generalize hp : w.heap.size = p at *
  go_enter Try.func18, Try.ntmps18
  go_wp2_with fail
  clear hwa z0 z1 z2
  go_loopw [3] (fun i wr => ∃ k : Nat, k ≤ n1 ∧ i = .int .i64 k ∧ Hid (idO f1 f2 n2 k) ∧ Below wa.heap.size wa wr) (fun i _ => n1 - (intOf i).toNat)
  case atStart => exact ⟨0, by omega, rfl, hide (fun i hi => absurd hi (Nat.not_lt_zero _)), Below.refl _ _⟩
  case round =>
    obtain ⟨k, hk, rfl, HI, hb⟩ := hrel
    have HB := hide hb
    have y0 := HZ0.out wr hb
    have y1 := HZ1.out wr hb
    have hbw := HBW.out wr hb
    by_cases hlt : k < n1
    · have hlt' : (k : Int) < n1 := by omega
      have hz := H1.out wr hbw k hlt
      have hs1 := fun w' => cutH b1 o1 n1 c1' k (by omega) w'
      have HBE := hide (fun d => below_drewN HB.out d)
      have HBE2 := hide (fun d => below_drewN hbw d)
      have c1 := fun w' => l1In_any (f1 k) 0 1000000 w'
      have c2 : ∀ d, Calls Try.prog 58 #[.slice (some ⟨b1, o1, none⟩) k c1', .int .i64 (f1 k)] (wr.drewN d) fun e w' => e = .returned (.bool (hasN f1 (f1 k) k)) ∧ w' = wr.drewN d := fun d => l15Has_any (some ⟨b1, o1, none⟩) k c1' f1 (f1 k) (by omega) (wr.drewN d) (.inr ⟨b1, o1, rfl, fun j hj => H1.out wr hbw j (by omega)⟩)
      have c3 : ∀ d, Calls Try.prog 58 #[.slice (some ⟨b2, o2, none⟩) n2 c2', .int .i64 (f1 k)] (wr.drewN d) fun e w' => e = .returned (.bool (hasN f2 (f1 k) n2)) ∧ w' = wr.drewN d := fun d => l15Has_any (some ⟨b2, o2, none⟩) n2 c2' f2 (f1 k) hn2 (wr.drewN d) (.inr ⟨b2, o2, rfl, fun j hj => H2.out wr hbw j hj⟩)
      have HST : Hid (inB (f1 k) 0 1000000 = true → hasN f1 (f1 k) k = false → hasN f2 (f1 k) n2 = false → idO f1 f2 n2 (k + 1)) := fun a1 a2 a3 i hi => by
        by_cases e : i = k
        · subst e; exact ⟨a1, a2, a3⟩
        · exact HI.out i (by omega)
      cases hI : inB (f1 k) 0 1000000 with
      | false =>
        simp only [hI] at c1
        have HF : Hid (V = false) := HVF.out (fun h => by have := (h.1 k hlt).1; rw [hI] at this; cases this)
        clear HT HI HB HBE HBW HVF HZ0 HZ1 HZ2 H1 H2 H3 hb c2 c3 HST
        go_upto_region 6 with fail
        go_quiet ((go_at_call 56; exact Calls.quiet_of_same (c1 _)))
        have HB9 := hide (HBE2.out nq)
        clear HBE2
        generalize wr.drewN nq = we at *
        go_wp2_with fail
        go_ret
        exact ⟨by rw [HF.out]; rfl, HB9.out⟩
      | true =>
        simp only [hI] at c1
        cases hH : hasN f1 (f1 k) k with
        | true =>
          simp only [hH] at c2
          have HF : Hid (V = false) := HVF.out (fun h => by have := (h.1 k hlt).2.1; rw [hH] at this; cases this)
          clear HT HI HB HBE HBW HVF HZ0 HZ1 HZ2 H1 H2 H3 hb c3 HST
          go_upto_region 6 with fail
          go_quiet (first | (go_at_call 56; exact Calls.quiet_of_same (c1 _)) | (go_at_call 58; exact Calls.quiet_of_same (c2 _)))
          have HB9 := hide (HBE2.out nq)
          clear HBE2
          generalize wr.drewN nq = we at *
          go_wp2_with fail
          go_ret
          exact ⟨by rw [HF.out]; rfl, HB9.out⟩
        | false =>
          simp only [hH] at c2
          cases hD : hasN f2 (f1 k) n2 with
          | true =>
            simp only [hD] at c3
            have HF : Hid (V = false) := HVF.out (fun h => by have := (h.1 k hlt).2.2; rw [hD] at this; cases this)
            clear HT HI HB HBE HBW HVF HZ0 HZ1 HZ2 H1 H2 H3 hb HST
            go_upto_region 6 with fail
            go_quiet (first | (go_at_call 56; exact Calls.quiet_of_same (c1 _)) | (go_at_call 58; first | with_reducible exact Calls.quiet_of_same (c2 _) | with_reducible exact Calls.quiet_of_same (c3 _)))
            have HB9 := hide (HBE2.out nq)
            clear HBE2
            generalize wr.drewN nq = we at *
            go_wp2_with fail
            go_ret
            exact ⟨by rw [HF.out]; rfl, HB9.out⟩
          | false =>
            simp only [hD] at c3
            have HI2 := hide (HST.out hI hH hD)
            clear HST HI hb hI hH hD
            go_upto_region 6 with fail
            go_quiet (first | (go_at_call 56; exact Calls.quiet_of_same (c1 _)) | (go_at_call 58; first | with_reducible exact Calls.quiet_of_same (c2 _) | with_reducible exact Calls.quiet_of_same (c3 _)))
            have HB9 := hide (HBE.out nq)
            clear HBE HBE2 c1 c2 c3
            generalize wr.drewN nq = we at *
            clear y0 y1 hz hbw HB
            go_wp2_with fail
            go_roundw
            case rel => exact ⟨k + 1, by omega, by go_num, HI2, HB9.out⟩
            case measure => simp [intOf]; omega
    · obtain rfl : k = n1 := by omega
      have HIO := HI
      clear HI
      go_wp2_with fail
      clear y0 y1 hbw hb
      go_loopw [4] (fun i wr => ∃ j : Nat, j ≤ n2 ∧ i = .int .i64 j ∧ Hid (idD f2 j) ∧ Below wa.heap.size wa wr) (fun i _ => n2 - (intOf i).toNat)
      case atStart => exact ⟨0, by omega, rfl, hide (fun i hi => absurd hi (Nat.not_lt_zero _)), HB.out⟩
      case round =>
        obtain ⟨j, hj, rfl, HI, hb⟩ := hrel
        clear HB
        have HB := hide hb
        have y0 := HZ0.out wr hb
        have y1 := HZ1.out wr hb
        have hbw := HBW.out wr hb
        by_cases hlt : j < n2
        · have hlt' : (j : Int) < n2 := by omega
          have hz := H2.out wr hbw j hlt
          have hs1 := fun w' => cutH b2 o2 n2 c2' j (by omega) w'
          have HBE := hide (fun d => below_drewN HB.out d)
          have HBE2 := hide (fun d => below_drewN hbw d)
          have c1 := fun w' => l1In_any (f2 j) 0 1000000 w'
          have c2 : ∀ d, Calls Try.prog 58 #[.slice (some ⟨b2, o2, none⟩) j c2', .int .i64 (f2 j)] (wr.drewN d) fun e w' => e = .returned (.bool (hasN f2 (f2 j) j)) ∧ w' = wr.drewN d := fun d => l15Has_any (some ⟨b2, o2, none⟩) j c2' f2 (f2 j) (by omega) (wr.drewN d) (.inr ⟨b2, o2, rfl, fun q hq => H2.out wr hbw q (by omega)⟩)
          have HST : Hid (inB (f2 j) 0 1000000 = true → hasN f2 (f2 j) j = false → idD f2 (j + 1)) := fun a1 a2 i hi => by
            by_cases e : i = j
            · subst e; exact ⟨a1, a2⟩
            · exact HI.out i (by omega)
          cases hI : inB (f2 j) 0 1000000 with
          | false =>
            simp only [hI] at c1
            have HF : Hid (V = false) := HVF.out (fun h => by have := (h.2 j hlt).1; rw [hI] at this; cases this)
            clear HT HI HB HBE HBW HVF HZ0 HZ1 HZ2 H1 H2 H3 hb HIO c2 HST
            go_upto_region 11 with fail
            go_quiet ((go_at_call 56; exact Calls.quiet_of_same (c1 _)))
            have HB9 := hide (HBE2.out nq)
            clear HBE2
            generalize wr.drewN nq = we at *
            go_wp2_with fail
            go_ret
            exact ⟨by rw [HF.out]; rfl, HB9.out⟩
          | true =>
            simp only [hI] at c1
            cases hH : hasN f2 (f2 j) j with
            | true =>
              simp only [hH] at c2
              have HF : Hid (V = false) := HVF.out (fun h => by have := (h.2 j hlt).2; rw [hH] at this; cases this)
              clear HT HI HB HBE HBW HVF HZ0 HZ1 HZ2 H1 H2 H3 hb HIO HST
              go_upto_region 11 with fail
              go_quiet (first | (go_at_call 56; exact Calls.quiet_of_same (c1 _)) | (go_at_call 58; exact Calls.quiet_of_same (c2 _)))
              have HB9 := hide (HBE2.out nq)
              clear HBE2
              generalize wr.drewN nq = we at *
              go_wp2_with fail
              go_ret
              exact ⟨by rw [HF.out]; rfl, HB9.out⟩
            | false =>
              simp only [hH] at c2
              have HI2 := hide (HST.out hI hH)
              clear HST HI hb hI hH
              go_upto_region 11 with fail
              go_quiet (first | (go_at_call 56; exact Calls.quiet_of_same (c1 _)) | (go_at_call 58; exact Calls.quiet_of_same (c2 _)))
              have HB9 := hide (HBE.out nq)
              clear HBE HBE2 c1 c2
              generalize wr.drewN nq = we at *
              clear y0 y1 hz hbw HB
              go_wp2_with fail
              go_roundw
              case rel => exact ⟨j + 1, by omega, by go_num, HI2, HB9.out⟩
              case measure => simp [intOf]; omega
        · obtain rfl : j = n2 := by omega
          have HV := hide (HT.out HIO.out HI.out)
          clear HT HVF HIO HI
          go_wp2_with fail
          clear y0 y1 hbw hb
          go_loopw [5, 6, 7] (fun at' i _ wr => ∃ (q r pp : Nat), q + r = k ∧ pp ≤ m ∧ at' = .int .i64 pp ∧ i = .int .i64 q ∧ Hid (sgW f1 E m q r pp = V) ∧ Below wa.heap.size wa wr) (fun _ i _ _ => k - (intOf i).toNat)
          case atStart => exact ⟨0, k, 0, by omega, by omega, rfl, rfl, hide HV.out.symm, HB.out⟩
          case round =>
            obtain ⟨q, r, pp, hqr, hpp, rfl, rfl, HW, hb⟩ := hrel
            clear HB HV
            have HB := hide hb
            have y0 := HZ0.out wr hb
            have y2 := HZ2.out wr hb
            have hbw := HBW.out wr hb
            cases r with
            | zero =>
              have hql : ¬ (q : Int) < k := by omega
              have HF : Hid (V = decide (pp = m)) := HW.out.symm
              have he : ((pp : Int) == (m : Int)) = decide (pp = m) := by rw [Bool.eq_iff_iff]; simp; omega
              clear HW HB hb H1 H2 H3 HZ0 HZ1 HZ2
              have HB9 := hide hbw
              go_wp2_with fail
              go_ret
              exact ⟨by rw [HF.out, ← he]; rfl, HB9.out⟩
            | succ r =>
              have hql : (q : Int) < k := by omega
              have HST : Hid (sgW f1 E m q (r + 1) pp = (opB (fun j => E (pp + j)) (cntP E (f1 q) pp (m - pp)) && sgW f1 E m (q + 1) r (pp + cntP E (f1 q) pp (m - pp)))) := rfl
              have HO0 : Hid ((wr.alloc (.cells #[] 36)).ownsRow wa.heap.size 36 4 (.slice (some ⟨wr.heap.size, 0, none⟩) 0 0) 0 (vls (FPart (fun j => E (pp + j))) (0 * 4))) := World.ownsRow_lit wr #[] 0 HB.out.size (by unfold maxLen; omega) rfl
              have HB0' : Hid (Below wa.heap.size wa (wr.alloc (.cells #[] 36))) := HB.out.alloc HB.out.size _
              go_wp2_with fail
              clear y0 y2 hbw hb
              go_loopw [5, 7] (fun at' v wq => ∃ (j t : Nat) (av : Option Addr) (cv : Nat), t ≤ m ∧ Hid (pp + j = t) ∧ at' = .int .i64 t ∧ v = .slice av j cv ∧ Hid (∀ x, x < j → (E (pp + x)).f0 = f1 q) ∧ Hid (apB (fun x => E (pp + x)) j = true) ∧ wq.ownsRow wa.heap.size 36 4 (.slice av j cv) j (vls (FPart (fun j => E (pp + j))) (j * 4)) ∧ Below wa.heap.size wa wq) (fun at' _ _ => m - (intOf at').toNat)
              case atStart => exact ⟨0, pp, _, _, by omega, hide (by simp), rfl, rfl, hide (fun x hx => absurd hx (Nat.not_lt_zero _)), hide rfl, HO0.out, HB0'.out⟩
              case round =>
                obtain ⟨j, t, av, cv, htm, HTJ, rfl, rfl, HID, HAP, ho, hb⟩ := hrel
                have hjt : j ≤ t := by have := HTJ.out; omega
                clear HO0 HB0' HB
                have HB := hide hb
                have HOW := hide ho
                have y0 := HZ0.out wr hb
                have y2 := HZ2.out wr hb
                have hbw := HBW.out wr hb
                have HBE := hide (fun d => below_drewN HB.out d)
                clear ho
                by_cases hin : t < m
                · have hin' : (t : Int) < m := by omega
                  obtain ⟨b3, o3, ha3, x0, x1, x2, x3⟩ := (H3.out wr hbw).atPart hin
                  subst ha3
                  have hzq := H1.out wr hbw q (by omega)
                  by_cases hid : (E t).f0 = f1 q
                  · have hidb : ((E t).f0 == f1 q) = true := by simpa using hid
                    have HG : Hid (j < cntP E (f1 q) pp (m - pp)) := cntP_gt E (f1 q) (m - pp) pp j (by have := HTJ.out; omega) (fun x hx => by
                      by_cases e : x = j
                      · subst e; rw [HTJ.out]; exact hid
                      · exact HID.out x (by omega))
                    have HI2 : Hid (∀ x, x < j + 1 → (E (pp + x)).f0 = f1 q) := fun x hx => by
                      by_cases e : x = j
                      · subst e; rw [HTJ.out]; exact hid
                      · exact HID.out x (by omega)
                    have HBF := hide (fun d => below_drewN hbw d)
                    have HOE : Hid (∀ d, (wr.drewN d).ownsRow wa.heap.size 36 4 (.slice av j cv) j (vls (FPart (fun j => E (pp + j))) (j * 4))) := fun d => owns_keep HOW.out (fun b hb => rfl)
                    have cP := fun w' => l15Part_any (E t) w'
                    go_upto_region 18 with fail
                    go_quiet (fail)
                    have HB9 := hide (HBE.out nq)
                    have HO9 := hide (HOE.out nq)
                    have hw9 := HBF.out nq
                    clear HBE HOE HBF HOW HB y0 y2 hb x0 x1 x2 x3 hzq hidb
                    generalize wr.drewN nq = we at *
                    have y2 := HZ2.out we HB9.out
                    obtain ⟨b3', o3', e9, x0, x1, x2, x3⟩ := (H3.out we hw9).atPart hin
                    cases e9
                    cases hpr : prB (E t) with
                    | false =>
                      simp only [hpr] at cP
                      have HF : Hid (V = false) := by
                        show _ = _
                        rw [← HW.out, HST.out]
                        have : opB (fun j => E (pp + j)) (cntP E (f1 q) pp (m - pp)) = false := by
                          unfold opB
                          rw [apB_f HG.out (show prB (E (pp + j)) = false by rw [HTJ.out]; exact hpr)]; rfl
                        rw [this]; rfl
                      clear HW HST HG HI2 HID HAP HO9 HZ0 HZ1 HZ2 H1 H2 H3 hid
                      go_wp2_with fail
                      refine (cP _).mono ?_
                      rintro e w1 ⟨rfl, hb1⟩
                      have HB1 := hide (bnext hw9 (by omega) hb1)
                      clear cP hb1
                      go_wp2_with fail
                      go_ret
                      exact ⟨by rw [HF.out]; rfl, HB1.out⟩
                    | true =>
                      simp only [hpr] at cP
                      have HAP2 : Hid (apB (fun x => E (pp + x)) (j + 1) = true) := by show _ = _; simp only [apB]; rw [HAP.out, HTJ.out, hpr]; rfl
                      clear HG HID HAP hid hpr
                      go_wp2_with fail
                      refine (cP _).mono ?_
                      rintro e w1 ⟨rfl, hb1⟩
                      have HB1 : Hid (Below wa.heap.size wa w1) := bnext HB9.out (Nat.le_refl _) hb1
                      have HO1 := hide (owns_keep HO9.out (fun b hb => hb1.block b (owns_lt HO9.out b hb)))
                      have hw1 := bnext hw9 (by omega) hb1
                      clear cP hb1 HB9 HO9 y2 x0 x1 x2 x3 hw9
                      have y2 := HZ2.out w1 HB1.out
                      obtain ⟨b3', o3', e9, x0, x1, x2, x3⟩ := (H3.out w1 hw1).atPart hin
                      cases e9
                      have HS1 : Hid (wa.heap.size ≤ w1.heap.size) := HB1.out.size
                      have HE : Hid ((fun j => E (pp + j)) j = ⟨(E t).f0, (E t).f1, (E t).f2, (E t).f3⟩) := by show E (pp + j) = _; rw [HTJ.out]
                      clear hw1
                      go_wp2_with (refine growP _ rfl _ _ rfl wa.heap.size _ j (fun j => E (pp + j)) rfl wa HO1.out HB1.out HS1.out _ _ _ _ HE.out rfl (by omega) ?_)
                      intro v' w' ho' hb' _
                      obtain ⟨a2, c2, bq, rfl, -, -, -⟩ := ow_vls ho'
                      have HO' := hide ho'
                      have HB' := hide hb'
                      clear ho' hb' HO1 HB1 HS1 HE y2 x0 x1 x2 x3
                      go_wp2_with fail
                      go_roundw
                      case rel => exact ⟨j + 1, t + 1, a2, c2, by omega, hide (by have := HTJ.out; omega), by go_num, rfl, HI2, HAP2, HO'.out, HB'.out⟩
                      case measure => simp [intOf]; omega
                  · have hidb : ((E t).f0 == f1 q) = false := by simpa using hid
                    have HC : Hid (cntP E (f1 q) pp (m - pp) = j) := cntP_is E (f1 q) (m - pp) pp j (by have := HTJ.out; omega) HID.out (.inr (by rw [HTJ.out]; exact hid))
                    have HBF := hide (fun d => below_drewN hbw d)
                    have HOE : Hid (∀ d, (wr.drewN d).ownsRow wa.heap.size 36 4 (.slice av j cv) j (vls (FPart (fun j => E (pp + j))) (j * 4))) := fun d => owns_keep HOW.out (fun b hb => rfl)
                    have HOP : Hid (opB (fun j => E (pp + j)) j = (decide (0 < j) && tgB (fun j => E (pp + j)) j && !whB (fun j => E (pp + j)) j)) := by show _ = _; unfold opB; rw [HAP.out]; rfl
                    have HST2 : Hid (V = (opB (fun j => E (pp + j)) j && sgW f1 E m (q + 1) r t)) := by show _ = _; rw [← HW.out, HST.out, HC.out, HTJ.out]
                    have hby : byS (fun j => E (pp + j)) j ≤ 1048576 := by
                      have h1 := byS_shift E pp j
                      have h2 := byS_le E htm
                      have h3 := HTJ.out
                      rw [h3] at h1
                      omega
                    go_upto_region 18 with fail
                    go_quiet (fail)
                    have HB9 := hide (HBE.out nq)
                    have HO9 := hide (HOE.out nq)
                    have hw9 := HBF.out nq
                    clear HBE HOE HBF HOW HB y0 y2 hb HW HST HC HAP HID x0 x1 x2 x3 hzq hidb hid
                    generalize wr.drewN nq = we at *
                    obtain ⟨aq, cq, bq, hq, ow9, -, -⟩ := ow_vls HO9.out
                    cases hq
                    have hpx := ow9.pxG
                    clear ow9
                    cases j with
                    | zero =>
                      have HF : Hid (V = false) := by show _ = _; rw [HST2.out, HOP.out]; rfl
                      clear HST2 HOP HO9 HZ0 HZ1 HZ2 H1 H2 H3 hpx
                      go_wp2_with fail
                      go_ret
                      exact ⟨by rw [HF.out]; rfl, hw9⟩
                    | succ j =>
                      have hj0 : (((j + 1 : Nat) : Int) == 0) = false := by simp; omega
                      have cT := l15Together_any av (j + 1) cv (fun j => E (pp + j)) (by omega) hby we hpx
                      have HWH : Hid (∀ w', Below we.heap.size we w' → Calls Try.prog 73 #[.slice av (j + 1) cv] w' fun e w'' => e = .returned (.bool (whB (fun j => E (pp + j)) (j + 1))) ∧ w'' = w') := fun w' hb => l15Whole_any av (j + 1) cv (fun j => E (pp + j)) (by omega) (by omega) w' (hpx.below hb)
                      rw [HOP.out, decide_eq_true (show 0 < j + 1 by omega), Bool.true_and] at HST2
                      clear HOP hpx HO9 hby
                      generalize tgB (fun j => E (pp + j)) (j + 1) = VT at *
                      generalize whB (fun j => E (pp + j)) (j + 1) = VW at *
                      cases VT with
                      | false =>
                        have HF : Hid (V = false) := by show _ = _; rw [HST2.out]; rfl
                        clear HST2 HWH HZ0 HZ1 HZ2 H1 H2 H3
                        go_wp2_with fail
                        refine cT.mono ?_
                        rintro e w1 ⟨rfl, hb1⟩
                        have HB1 := hide (bnext hw9 (by omega) hb1)
                        clear cT hb1
                        go_wp2_with fail
                        go_ret
                        exact ⟨by rw [HF.out]; rfl, HB1.out⟩
                      | true =>
                        go_wp2_with fail
                        refine cT.mono ?_
                        rintro e w1 ⟨rfl, hb1⟩
                        have HB1 := hide (bnext hw9 (by omega) hb1)
                        have HB1' : Hid (Below wa.heap.size wa w1) := bnext HB9.out (Nat.le_refl _) hb1
                        have cW := HWH.out w1 hb1
                        clear cT hb1 HWH HB9 hw9
                        cases VW with
                        | true =>
                          have HF : Hid (V = false) := by show _ = _; rw [HST2.out]; rfl
                          clear HST2 HZ0 HZ1 HZ2 H1 H2 H3 HB1'
                          go_wp2_with fail
                          refine cW.mono ?_
                          rintro e w2 ⟨rfl, rfl⟩
                          clear cW
                          go_wp2_with fail
                          go_ret
                          exact ⟨by rw [HF.out]; rfl, HB1.out⟩
                        | false =>
                          have HW2 : Hid (sgW f1 E m (q + 1) r t = V) := by show _ = _; rw [HST2.out]; rfl
                          clear HST2 HB1
                          go_wp2_with fail
                          refine cW.mono ?_
                          rintro e w2 ⟨rfl, rfl⟩
                          clear cW
                          go_wp2_with fail
                          go_roundw
                          case rel => exact ⟨q + 1, r, t, by omega, by omega, rfl, by go_num, HW2, HB1'.out⟩
                          case measure => simp [intOf]; omega
                · have hin' : ¬ (t : Int) < m := by omega
                  have HC : Hid (cntP E (f1 q) pp (m - pp) = j) := cntP_is E (f1 q) (m - pp) pp j (by have := HTJ.out; omega) HID.out (.inl (by have := HTJ.out; omega))
                  have HBF := hide (fun d => below_drewN hbw d)
                  have HOE : Hid (∀ d, (wr.drewN d).ownsRow wa.heap.size 36 4 (.slice av j cv) j (vls (FPart (fun j => E (pp + j))) (j * 4))) := fun d => owns_keep HOW.out (fun b hb => rfl)
                  have HOP : Hid (opB (fun j => E (pp + j)) j = (decide (0 < j) && tgB (fun j => E (pp + j)) j && !whB (fun j => E (pp + j)) j)) := by show _ = _; unfold opB; rw [HAP.out]; rfl
                  have HST2 : Hid (V = (opB (fun j => E (pp + j)) j && sgW f1 E m (q + 1) r t)) := by show _ = _; rw [← HW.out, HST.out, HC.out, HTJ.out]
                  have hby : byS (fun j => E (pp + j)) j ≤ 1048576 := by
                    have h1 := byS_shift E pp j
                    have h2 := byS_le E htm
                    have h3 := HTJ.out
                    rw [h3] at h1
                    omega
                  go_upto_region 18 with fail
                  go_quiet (fail)
                  have HB9 := hide (HBE.out nq)
                  have HO9 := hide (HOE.out nq)
                  have hw9 := HBF.out nq
                  clear HBE HOE HBF HOW HB y0 y2 hb HW HST HC HAP HID
                  generalize wr.drewN nq = we at *
                  obtain ⟨aq, cq, bq, hq, ow9, -, -⟩ := ow_vls HO9.out
                  cases hq
                  have hpx := ow9.pxG
                  clear ow9
                  cases j with
                  | zero =>
                    have HF : Hid (V = false) := by show _ = _; rw [HST2.out, HOP.out]; rfl
                    clear HST2 HOP HO9 HZ0 HZ1 HZ2 H1 H2 H3 hpx
                    go_wp2_with fail
                    go_ret
                    exact ⟨by rw [HF.out]; rfl, hw9⟩
                  | succ j =>
                    have hj0 : (((j + 1 : Nat) : Int) == 0) = false := by simp; omega
                    have cT := l15Together_any av (j + 1) cv (fun j => E (pp + j)) (by omega) hby we hpx
                    have HWH : Hid (∀ w', Below we.heap.size we w' → Calls Try.prog 73 #[.slice av (j + 1) cv] w' fun e w'' => e = .returned (.bool (whB (fun j => E (pp + j)) (j + 1))) ∧ w'' = w') := fun w' hb => l15Whole_any av (j + 1) cv (fun j => E (pp + j)) (by omega) (by omega) w' (hpx.below hb)
                    rw [HOP.out, decide_eq_true (show 0 < j + 1 by omega), Bool.true_and] at HST2
                    clear HOP hpx HO9 hby
                    generalize tgB (fun j => E (pp + j)) (j + 1) = VT at *
                    generalize whB (fun j => E (pp + j)) (j + 1) = VW at *
                    cases VT with
                    | false =>
                      have HF : Hid (V = false) := by show _ = _; rw [HST2.out]; rfl
                      clear HST2 HWH HZ0 HZ1 HZ2 H1 H2 H3
                      go_wp2_with fail
                      refine cT.mono ?_
                      rintro e w1 ⟨rfl, hb1⟩
                      have HB1 := hide (bnext hw9 (by omega) hb1)
                      clear cT hb1
                      go_wp2_with fail
                      go_ret
                      exact ⟨by rw [HF.out]; rfl, HB1.out⟩
                    | true =>
                      go_wp2_with fail
                      refine cT.mono ?_
                      rintro e w1 ⟨rfl, hb1⟩
                      have HB1 := hide (bnext hw9 (by omega) hb1)
                      have HB1' : Hid (Below wa.heap.size wa w1) := bnext HB9.out (Nat.le_refl _) hb1
                      have cW := HWH.out w1 hb1
                      clear cT hb1 HWH HB9 hw9
                      cases VW with
                      | true =>
                        have HF : Hid (V = false) := by show _ = _; rw [HST2.out]; rfl
                        clear HST2 HZ0 HZ1 HZ2 H1 H2 H3 HB1'
                        go_wp2_with fail
                        refine cW.mono ?_
                        rintro e w2 ⟨rfl, rfl⟩
                        clear cW
                        go_wp2_with fail
                        go_ret
                        exact ⟨by rw [HF.out]; rfl, HB1.out⟩
                      | false =>
                        have HW2 : Hid (sgW f1 E m (q + 1) r t = V) := by show _ = _; rw [HST2.out]; rfl
                        clear HST2 HB1
                        go_wp2_with fail
                        refine cW.mono ?_
                        rintro e w2 ⟨rfl, rfl⟩
                        clear cW
                        go_wp2_with fail
                        go_roundw
                        case rel => exact ⟨q + 1, r, t, by omega, by omega, rfl, by go_num, HW2, HB1'.out⟩
                        case measure => simp [intOf]; omega

end Go.Proofs.Ytoomnfjcbdghgaa
