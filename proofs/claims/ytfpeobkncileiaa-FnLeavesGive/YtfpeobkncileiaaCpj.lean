/- Rows put together by copy. -/
import Derived.Test.YtfpeobkncileiaaLln
import Derived.Test.YtfpeobkncileiaaBds
import Derived.Laws.IdiomCopy
namespace Go.Proofs.Ytfpeobkncileiaa
open Go.RowKit

theorem Kept.setCells {p : Nat} {w w' : World} : ∀ (vs : List Value) (o : Nat) {w' : World}, Kept p w w' → Kept p w (w'.setCells p o vs)
  | [], _, _, h => h
  | v :: r, o, _, h => Kept.setCells (w' := w') r (o + 1) (h.setCell (a := ⟨p, o, none⟩) rfl v)
theorem Row.setCells {b M : Nat} {s s' : Nat → Int} {w : World} (h : Row b M s w) (o : Nat) (L : List Int) (hM : o + L.length ≤ M) (h1 : ∀ q, q < L.length → s' (o + q) = L.getD q 0) (h2 : ∀ q, q < o ∨ o + L.length ≤ q → s' q = s q) : Row b M s' (w.setCells b o (ints L)) := fun q hq => by
  refine ⟨?_, by rw [World.frozen?_setCells]; exact (h q hq).2⟩
  by_cases hin : o ≤ q ∧ q < o + L.length
  · obtain ⟨j, rfl⟩ : ∃ j, q = o + j := ⟨q - o, by omega⟩
    have hj : j < L.length := by omega
    rw [World.cell?_setCells_in b (ints L) o w (fun i hi => by rw [ints_length] at hi; rw [(h (o + i) (by omega)).1]; rfl) j (by rw [ints_length]; exact hj), h1 j hj]
    have := ints_at L j hj
    rw [List.getElem?_eq_getElem (by rw [ints_length]; exact hj)] at this
    exact this
  · rw [World.cell?_setCells_out b (ints L) o w _ (fun _ _ => by rw [ints_length]; show q < o ∨ _ ≤ q; omega), h2 q (by omega)]
    exact (h q hq).1
set_option maxRecDepth 100000 in
theorem copy_any (J M T c : Nat) (s : Nat → Int) (a : Option Addr) (n cap : Nat) (g : Nat → Int) (ty : TypeId) (hT : T + n ≤ M) (w : World) (hr : Row J M s w) (h : Px a n g w) :
    (Builtin.copy_ #[24, 24] ty #[.slice (some ⟨J, T, none⟩) (M - T) c, .slice a n cap]).run Try.prog w = .ok (.int .i64 n) (w.setCells J T (ints (fl g n))) := by
  by_cases h0 : n = 0
  · subst h0
    exact run_copy_none (P := Try.prog) w 24 24 ty 2 (some ⟨J, T, none⟩) a (M - T) c 0 cap Try.underlying24 rfl (Nat.zero_min _)
  · rcases h with h | ⟨b, off, rfl, hc⟩
    · exact absurd h h0
    · have hl : (ints (fl g n)).length = n := by rw [ints_length, fl_len]
      have := run_copy_cells (P := Try.prog) w 24 24 ty 2 J T (M - T) c ⟨b, off, none⟩ n cap (ints (fl g n)) Try.underlying24 rfl (by rw [hl]; exact (Nat.min_eq_left (by omega)).symm)
        (fun j v hv => by
          have hj : j < n := by
            have := (List.getElem?_eq_some_iff.1 hv).1
            omega
          have h2 := ints_at (fl g n) j (by rw [fl_len]; exact hj)
          rw [h2, fl_at g n j hj] at hv
          cases hv
          rw [show (⟨b, off, none⟩ : Addr).add j = ⟨b, off + j, none⟩ by unfold Addr.add; split <;> simp_all]
          exact hc j hj)
        (fun j hj => by rw [(hr (T + j) (by omega)).1]; rfl) (fun j hj => (hr (T + j) (by omega)).2) (ints_one _)
      rw [this, hl]
      rfl

/-- a list of lists is there -/
def PxL (a : Option Addr) (m : Nat) (ad : Nat → Option Addr) (ln cp : Nat → Nat) (F : Nat → Nat → Int) (w : World) : Prop :=
  (∃ b off, a = some ⟨b, off, none⟩ ∧ ∀ i, i < m → w.cell? ⟨b, off + i, none⟩ = some (.slice (ad i) (ln i) (cp i))) ∧ ∀ i, i < m → Px (ad i) (ln i) (F i) w
theorem PxL.below {a : Option Addr} {m : Nat} {ad : Nat → Option Addr} {ln cp : Nat → Nat} {F : Nat → Nat → Int} {w w' : World} (h : PxL a m ad ln cp F w) (hb : Below w.heap.size w w') : PxL a m ad ln cp F w' := by
  obtain ⟨⟨b, off, ha, hc⟩, h2⟩ := h
  exact ⟨⟨b, off, ha, fun i hi => cell_kept hb (hc i hi)⟩, fun i hi => (h2 i hi).below hb⟩
/-- the first k lists, one behind the other -/
def cat (ln : Nat → Nat) (F : Nat → Nat → Int) : Nat → List Int
  | 0 => []
  | k + 1 => cat ln F k ++ fl (F k) (ln k)
theorem cat_len (ln : Nat → Nat) (F : Nat → Nat → Int) : ∀ k, (cat ln F k).length = sumN ln k
  | 0 => rfl
  | k + 1 => by
    show (cat ln F k ++ fl (F k) (ln k)).length = sumN ln k + ln k
    rw [List.length_append, cat_len ln F k, fl_len]
theorem sumN_mono {ln : Nat → Nat} {k : Nat} : ∀ {m : Nat}, k ≤ m → sumN ln k ≤ sumN ln m
  | 0, h => by
    have e : k = 0 := by omega
    rw [e]; exact Nat.le_refl _
  | m + 1, h => by
    by_cases e : k = m + 1
    · rw [e]; exact Nat.le_refl _
    · have := sumN_mono (ln := ln) (k := k) (m := m) (by omega)
      show _ ≤ sumN ln m + ln m
      omega

set_option maxRecDepth 100000 in
set_option maxHeartbeats 8000000 in
theorem joinRows_any (a : Option Addr) (m cap : Nat) (ad : Nat → Option Addr) (ln cp : Nat → Nat) (F : Nat → Nat → Int) (hm : m ≤ 1000) (hs : sumN ln m ≤ 1048576) (w : World) (h : PxL a m ad ln cp F w) :
    Calls Try.prog 25 #[.slice a m cap] w (LsR (sumN ln m) (fun q => (cat ln F m).getD q 0) w) := by
  have HP := hide h
  have HSm := hide hs
  have hmk := fun w' => make_px (sumN ln m) hs w'
  clear h
  go_enter Try.func25, Try.ntmps25
  go_wp2_with fail
  go_loop [3, 5, 12] (fun l _ i => ∃ k : Nat, k ≤ m ∧ i = .int .i64 k ∧ l = .int .i64 (sumN ln k : Nat)) (fun _ _ i => m - (intOf i).toNat)
  case atStart => exact ⟨0, by omega, rfl, rfl⟩
  case round =>
    obtain ⟨k, hk, rfl, rfl⟩ := hrel
    obtain ⟨⟨b, off, rfl, hc⟩, -⟩ := HP.out
    by_cases hlt : k < m
    · have z := hc k hlt
      have h1 := sumN_le (ln := ln) hlt
      have h2 := sumN_mono (ln := ln) (k := k + 1) (m := m) (by omega)
      have HY : Hid (((sumN ln (k + 1) : Nat) : Int) = ((sumN ln k : Nat) : Int) + ((ln k : Nat) : Int)) := by show ((sumN ln k + ln k : Nat) : Int) = _; omega
      have h3 : sumN ln k ≤ 1048576 := by have := sumN_mono (ln := ln) (k := k) (m := m) (by omega); omega
      clear HP hc hmk h2
      generalize sumN ln k = X at *
      generalize ln k = Y at *
      go_wp2_with fail
      exact ⟨⟨k + 1, by omega, rfl, by rw [HY.out]⟩, by simp [intOf]; omega⟩
    obtain rfl : k = m := by omega
    have HS2 := hide ((St.start w).own (bnew w (.cells (madeCells #[.int .i64 0] (sumN ln k)) 2)) (row_new (sumN ln k) w).v (.inr (Nat.le_refl _)))
    clear hc hlt hk
    obtain ⟨M, hM⟩ : ∃ M, sumN ln k = M := ⟨_, rfl⟩
    have HM := hide hM
    rw [hM] at HS2 hmk hs ⊢
    clear hM
    go_wp2_with fail
    clear hmk
    obtain ⟨J, hJ⟩ : ∃ J, w.heap.size = J := ⟨_, rfl⟩
    rw [hJ] at HS2
    have HJ := hide hJ
    try simp only [hJ]
    clear hJ
    go_loopw [7, 9, 25] (fun l _ i wr => ∃ t : Nat, t ≤ k ∧ i = .int .i64 t ∧ l = .int .i64 (sumN ln t : Nat) ∧ St w [] [(some ⟨J, 0, none⟩, J, M, fun q => .int .i64 ((cat ln F t).getD q 0))] wr) (fun _ _ i _ => k - (intOf i).toNat)
    case atStart => exact ⟨0, by omega, rfl, rfl, HS2.out⟩
    case round =>
      clear HS2
      obtain ⟨t, ht, rfl, rfl, hst⟩ := hrel
      by_cases htk : t < k
      · have hPw := HP.out.below hst.below
        obtain ⟨b', off', he, hc⟩ := hPw.1
        cases he
        have z := hc t htk
        have h1 := sumN_mono (ln := ln) (k := t + 1) (m := k) (by omega)
        have h2 : sumN ln (t + 1) = sumN ln t + ln t := rfl
        have hTM : sumN ln t + ln t ≤ M := by have := HM.out; omega
        have hrow : Row J M (fun q => (cat ln F t).getD q 0) wr := by
          rcases hst.nthO 0 rfl with h0 | ⟨-, h0⟩
          · intro q hq; exact absurd hq (by rw [h0]; omega)
          · exact h0
        have hcl := cat_len ln F t
        have HS4 : Hid (St w [] [(some ⟨J, 0, none⟩, J, M, fun q => .int .i64 ((cat ln F (t + 1)).getD q 0))] (wr.setCells J (sumN ln t) (ints (fl (F t) (ln t))))) := by
          by_cases hM0 : ln t = 0
          · have e1 : fl (F t) (ln t) = [] := by rw [hM0]; rfl
            have e2 : cat ln F (t + 1) = cat ln F t := by show cat ln F t ++ fl (F t) (ln t) = _; rw [e1, List.append_nil]
            rw [e1, e2]
            exact hst
          · refine hst.mark0 (by omega) (Kept.setCells (w' := wr) _ _ (Kept.refl _ _)) (Row.v (Row.setCells hrow (sumN ln t) (fl (F t) (ln t)) (by rw [fl_len]; exact hTM) (fun q hq => ?_) (fun q hq => ?_)))
            · show (cat ln F t ++ fl (F t) (ln t)).getD (sumN ln t + q) 0 = _
              simp only [List.getD]
              rw [List.getElem?_append_right (by omega), hcl, show sumN ln t + q - sumN ln t = q by omega]
            · show (cat ln F t ++ fl (F t) (ln t)).getD q 0 = (cat ln F t).getD q 0
              rw [fl_len] at hq
              simp only [List.getD]
              rcases hq with hq | hq
              · rw [List.getElem?_append_left (by omega)]
              · rw [List.getElem?_eq_none (by rw [List.length_append, fl_len]; omega), List.getElem?_eq_none (by omega)]
        have hcp := copy_any J M (sumN ln t) (M - sumN ln t) _ (ad t) (ln t) (cp t) (F t) 3 hTM wr hrow (hPw.2 t htk)
        have HY : Hid (((sumN ln (t + 1) : Nat) : Int) = ((sumN ln t : Nat) : Int) + ((ln t : Nat) : Int)) := by show ((sumN ln t + ln t : Nat) : Int) = _; omega
        have hcn := run_copy_none (P := Try.prog) wr 24 24 3 2 (some ⟨J, 0, none⟩) (ad t) 0 0 (ln t) (cp t) Try.underlying24 rfl (Nat.min_zero _)
        clear hst hPw hc h1 h2 hrow hcl HP HM HSm HJ
        by_cases hTe : sumN ln t = M
        · have hK : ln t = 0 := by omega
          have e1 : fl (F t) (ln t) = [] := by rw [hK]; rfl
          rw [e1] at HS4
          rw [hK] at hcn HY z
          have HS5 : Hid (St w [] [(some ⟨J, 0, none⟩, J, M, fun q => .int .i64 ((cat ln F (t + 1)).getD q 0))] wr) := HS4.out
          have HY2 : Hid (((sumN ln (t + 1) : Nat) : Int) = ((sumN ln t : Nat) : Int)) := by show _ = _; rw [HY.out]; simp
          have hcn' : (Builtin.copy_ #[24, 24] 3 #[.slice (some ⟨J, 0, none⟩) 0 0, .slice (ad t) 0 (cp t)]).run Try.prog wr = .ok (.int .i64 0) wr := hcn
          rw [hTe] at HY2
          rw [show Value.int .i64 (sumN ln t : Nat) = Value.int .i64 (M : Nat) by rw [hTe]]
          clear HS4 hcp hK e1 HY hTM hcn hTe
          go_wp2_with fail
          exact ⟨⟨t + 1, by omega, rfl, by rw [HY2.out], HS5.out⟩, by simp [intOf]; omega⟩
        · have hTl : sumN ln t < M := by omega
          clear hcn hTe
          generalize sumN ln t = T at *
          generalize ln t = K at *
          go_wp2_with fail
          exact ⟨⟨t + 1, by omega, rfl, by rw [HY.out], HS4.out⟩, by simp [intOf]; omega⟩
      · obtain rfl : t = k := by omega
        have HE : Hid (LsR (sumN ln t) (fun q => (cat ln F t).getD q 0) w (.returned (.slice (some ⟨J, 0, none⟩) M M)) wr) := by rw [HM.out]; exact ⟨_, _, J, rfl, (hst.nthO 0 rfl).i, .inr (by rw [HJ.out]; exact Nat.le_refl _), hst.below⟩
        clear hst HP HM HSm HJ
        go_wp2_with fail
        go_ret
        exact HE.out

end Go.Proofs.Ytfpeobkncileiaa
