/- Leaves give the row again: numbers alone, second part. -/
import Derived.Test.YtfpeobkncileiaaLgt
import Derived.Test.YtfpeobkncileiaaLvi
namespace Go.Proofs.Ytfpeobkncileiaa
open Go.RowKit

theorem up_pre (g : Nat → Int) (d : Nat) : ∀ K, d + 1 ≤ K → ∃ R, upL g K = upL g (d + 1) ++ R ∧ ∀ x ∈ R, (d : Int) + 1 ≤ x := fun K => by
  induction K with
  | zero => intro h; omega
  | succ k ih =>
    intro hk
    by_cases h : k = d
    · subst h; exact ⟨[], by simp, fun x hx => by simp at hx⟩
    · obtain ⟨R, e, hR⟩ := ih (by omega)
      refine ⟨R ++ List.replicate (g (k + 1) - g k).toNat (k : Int), ?_, fun x hx => ?_⟩
      · conv => lhs; unfold upL
        rw [e, List.append_assoc]
      · rcases List.mem_append.1 hx with h1 | h1
        · exact hR x h1
        · have := List.eq_of_mem_replicate h1
          omega
theorem up_mem (g : Nat → Int) : ∀ K x, x ∈ upL g K → ∃ i : Nat, i < K ∧ x = (i : Int) ∧ g i < g (i + 1)
  | 0, x, h => by simp [upL] at h
  | k + 1, x, h => by
    unfold upL at h
    rcases List.mem_append.1 h with h1 | h1
    · obtain ⟨i, hi, e, hg⟩ := up_mem g k x h1
      exact ⟨i, by omega, e, hg⟩
    · have hx := List.eq_of_mem_replicate h1
      have hp : 0 < (g (k + 1) - g k).toNat := by
        cases hq : (g (k + 1) - g k).toNat with
        | zero => rw [hq] at h1; simp at h1
        | succ m => omega
      exact ⟨k, by omega, hx, by omega⟩
theorem dn_pre (g : Nat → Int) (d : Nat) : ∀ K, d + 1 ≤ K → ∃ R, dnL g K = dnL g (d + 1) ++ R ∧ ∀ x ∈ R, (d : Int) + 1 ≤ x := fun K => by
  induction K with
  | zero => intro h; omega
  | succ k ih =>
    intro hk
    by_cases h : k = d
    · subst h; exact ⟨[], by simp, fun x hx => by simp at hx⟩
    · obtain ⟨R, e, hR⟩ := ih (by omega)
      refine ⟨R ++ List.replicate (g k - g (k + 1)).toNat (k : Int), ?_, fun x hx => ?_⟩
      · conv => lhs; unfold dnL
        rw [e, List.append_assoc]
      · rcases List.mem_append.1 hx with h1 | h1
        · exact hR x h1
        · have := List.eq_of_mem_replicate h1
          omega
theorem dn_mem (g : Nat → Int) : ∀ K x, x ∈ dnL g K → ∃ i : Nat, i < K ∧ x = (i : Int) ∧ g (i + 1) < g i
  | 0, x, h => by simp [dnL] at h
  | k + 1, x, h => by
    unfold dnL at h
    rcases List.mem_append.1 h with h1 | h1
    · obtain ⟨i, hi, e, hg⟩ := dn_mem g k x h1
      exact ⟨i, by omega, e, hg⟩
    · have hx := List.eq_of_mem_replicate h1
      have hp : 0 < (g k - g (k + 1)).toNat := by
        cases hq : (g k - g (k + 1)).toNat with
        | zero => rw [hq] at h1; simp at h1
        | succ m => omega
      exact ⟨k, by omega, hx, by omega⟩
theorem getD_mem {L : List Int} {j : Nat} (h : j < L.length) : L.getD j 0 ∈ L := by
  simp only [List.getD, List.getElem?_eq_getElem h, Option.getD_some]
  exact List.getElem_mem h
/-- each opening is shut behind where it is opened -/
theorem ud_lt {g : Nat → Int} (h0 : g 0 = 0) (hg : ∀ k, 0 ≤ g k) {K j : Nat} (hj : j < (dnL g K).length) :
    0 ≤ (upL g K).getD j 0 ∧ (upL g K).getD j 0 < (dnL g K).getD j 0 ∧ (dnL g K).getD j 0 < K := by
  obtain ⟨d, hd, ed, hgd⟩ := dn_mem g K _ (getD_mem hj)
  obtain ⟨R, eR, hR⟩ := dn_pre g d K (by omega)
  have hjd : j < (dnL g (d + 1)).length := by
    by_cases hc : j < (dnL g (d + 1)).length
    · exact hc
    · exfalso
      have e1 : (dnL g K).getD j 0 = R.getD (j - (dnL g (d + 1)).length) 0 := by
        rw [eR]
        have := getD_app_r (L := dnL g (d + 1)) (M := R) (j - (dnL g (d + 1)).length)
        rw [show (dnL g (d + 1)).length + (j - (dnL g (d + 1)).length) = j by omega] at this
        exact this
      have hlen : j - (dnL g (d + 1)).length < R.length := by
        rw [eR, List.length_append] at hj
        omega
      have := hR _ (getD_mem hlen)
      rw [← e1, ed] at this
      omega
  have hc := ud_len g (d + 1)
  have hgd1 := hg (d + 1)
  have hju' : j < (upL g (d + 1)).length := by omega
  obtain ⟨S, eS, -⟩ := up_pre g d K (by omega)
  have e2 : (upL g K).getD j 0 = (upL g (d + 1)).getD j 0 := by rw [eS]; exact getD_app_l hju'
  obtain ⟨i, hi, ei, hgi⟩ := up_mem g (d + 1) _ (getD_mem hju')
  rw [e2, ei, ed]
  have hne : i ≠ d := fun e => by rw [e] at hgi; omega
  omega
theorem opS_cLe (U D : List Int) (q : Nat) (hD : D.length = U.length) (hlt : ∀ j, j < U.length → U.getD j 0 < D.getD j 0) : ∀ k, k ≤ U.length → opS U D q k = (cLe (U.take k) q : Int) - cLe (D.take k) q
  | 0, _ => by simp [opS, cLe]
  | k + 1, hk => by
    have one : ∀ x : Int, (cLe [x] q : Int) = if x ≤ (q : Int) then 1 else 0 := fun x => by
      unfold cLe
      by_cases h : x ≤ (q : Int) <;> simp [h]
    unfold opS
    rw [opS_cLe U D q hD hlt k (by omega), take_step (by omega), take_step (by omega), cLe_app, cLe_app]
    have := hlt k (by omega)
    have h1 := one (U.getD k 0)
    have h2 := one (D.getD k 0)
    rw [Int.natCast_add, Int.natCast_add, h1, h2]
    repeat' split
    all_goals omega
theorem up_count (g : Nat → Int) (x : Int) (hg : ∀ k, 0 ≤ g k ∧ g k ≤ 1000) : ∀ K, ((upL g K).count x : Int) ≤ 1000
  | 0 => by simp [upL]
  | k + 1 => by
    unfold upL
    rw [List.count_append]
    by_cases hx : x = (k : Int)
    · have h0 : (upL g k).count x = 0 := by
        rw [List.count_eq_zero]
        intro hm
        obtain ⟨i, hi, e, -⟩ := up_mem g k x hm
        omega
      rw [h0]
      have := hg k
      have := hg (k + 1)
      have hc : (List.replicate (g (k + 1) - g k).toNat (k : Int)).count x ≤ (g (k + 1) - g k).toNat := by
        have := List.count_le_length (a := x) (l := List.replicate (g (k + 1) - g k).toNat (k : Int))
        rw [List.length_replicate] at this
        exact this
      omega
    · have h0 : (List.replicate (g (k + 1) - g k).toNat (k : Int)).count x = 0 := by
        rw [List.count_eq_zero]
        intro hm
        exact hx (List.eq_of_mem_replicate hm)
      rw [h0]
      exact up_count g x hg k
theorem up_len (f : Nat → Int) (n : Nat) (hf : ∀ k, k < n → 0 ≤ f k ∧ f k ≤ 1000) : ((lvU n f).length : Int) = upS f n := by
  have hr : ∀ k, k < n → rr f n k = pre1 f k := fun k hk => by
    unfold rr pre1
    by_cases h0 : k = 0
    · rw [if_pos h0, if_pos h0]
    · rw [if_neg h0, if_neg h0, if_pos (by omega)]
  have key : ∀ k, k ≤ n → ((upL (rr f n) k).length : Int) = upS f k := fun k => by
    induction k with
    | zero => intro _; rfl
    | succ k ih =>
      intro hk
      unfold upL
      rw [List.length_append, List.length_replicate, upS_step, ← ih (by omega), rr_in (by omega), hr k (by omega)]
      split <;> omega
  unfold lvU
  have hb := rr_bd hf n
  unfold upL
  rw [List.length_append, List.length_replicate, rr_end]
  have := key n (Nat.le_refl _)
  omega
theorem lvB_of {n : Int} {m : Nat} {f : Nat → Int} (h0 : 0 ≤ n ∧ n ≤ 64) (hm : m ≤ 64000) (h : ∀ i, i < m → lfB n f i = true) : lvB n m f = true := by
  have hall : ∀ m, (∀ i, i < m → lfB n f i = true) → allG (lfB n f) m = true := fun m => by
    induction m with
    | zero => intro _; rfl
    | succ k ih => intro h; unfold allG; rw [ih (fun i hi => h i (by omega)), h k (by omega)]; rfl
  unfold lvB
  rw [inB_iff.2 h0, decide_eq_true hm, hall m h]
  rfl
theorem lvB_64 {n : Int} {m : Nat} {f : Nat → Int} (h : lvB n m f = true) : lvB 64 m f = true := by
  obtain ⟨h0, h1, h2, h3⟩ := lvB_parts h
  refine lvB_of ⟨by omega, by omega⟩ h2 (fun i hi => ?_)
  have := lfB_iff.1 (h3 i hi)
  exact lfB_iff.2 (by omega)
/-- the leaves of a row: right, they give it, and have as many units as it has steps up -/
theorem leaves_give {n : Nat} {f : Nat → Int} (h : rlB n f = true) : lvB n (lvC n f) (fun j => (lvF n f).getD j 0) = true ∧ (∀ q, q < n → gvS (fun j => (lvF n f).getD j 0) q (lvC n f) = f q) ∧ uS (fun j => (lvF n f).getD j 0) (lvC n f) = upS f n := by
  obtain ⟨hn, hf⟩ := rlB_parts h
  have hg := rr_bd hf
  have hlen := lv_len n f
  have hul := up_len f n hf
  have hub := upS_bd (B := 1000) (by omega) n hf
  have hlt : ∀ j, j < (lvU n f).length → 0 ≤ (lvU n f).getD j 0 ∧ (lvU n f).getD j 0 < (lvD n f).getD j 0 ∧ (lvD n f).getD j 0 < ((n + 1 : Nat) : Int) := fun j hj => ud_lt (rr_0 f n) (fun k => (hg k).1) (by unfold lvD at hlen; omega)
  have hc : lvC n f ≤ (lvU n f).length := (gat_len (lvU n f) (lvD n f) (lvU n f).length).2
  refine ⟨lvB_of ⟨by omega, by omega⟩ (by omega) (fun i hi => ?_), fun q hq => ?_, ?_⟩
  · obtain ⟨j, hj, e0, e1, e2, e3⟩ := gat_leaf (lvU n f) (lvD n f) (lvU n f).length (Nat.le_refl _) i hi
    have hb := hlt j hj
    have hcnt := up_count (rr f n) ((lvU n f).getD j 0) hg (n + 1)
    rw [List.take_length] at e3
    refine lfB_iff.2 ?_
    show 0 ≤ (lvF n f).getD (i * 3) 0 ∧ _
    unfold lvF
    unfold lvU at hcnt
    rw [e0, e1]
    unfold lvU at *
    omega
  · have h1 := (gat_gv (lvU n f) (lvD n f) q (lvU n f).length).1
    have h2 := opS_cLe (lvU n f) (lvD n f) q hlen.symm (fun j hj => (hlt j hj).2.1) (lvU n f).length (Nat.le_refl _)
    rw [List.take_length, show (lvU n f).length = (lvD n f).length from hlen, List.take_length] at h2
    have h3 := cLe_up (rr f n) q (n + 1) (by omega)
    have h4 := cLe_dn (rr f n) q (n + 1) (by omega)
    have h5 := ud_len (rr f n) (q + 1)
    rw [rr_in hq, rr_0] at h5
    show gvS (fun j => (gat (lvU n f) (lvD n f) (lvU n f).length).getD j 0) q (gtc (lvU n f) (lvD n f) (lvU n f).length) = f q
    rw [h1]
    rw [← hlen] at h2
    rw [h2]
    unfold lvU lvD
    rw [h3, h4]
    omega
  · have := (gat_gv (lvU n f) (lvD n f) 0 (lvU n f).length).2
    show uS (fun j => (gat (lvU n f) (lvD n f) (lvU n f).length).getD j 0) (gtc (lvU n f) (lvD n f) (lvU n f).length) = upS f n
    rw [this]
    exact hul

end Go.Proofs.Ytfpeobkncileiaa
