/- The program's Expand. -/
import Derived.Test.YtebcclmilplfcaaXpz
import Derived.Test.YtebcclmilplfcaaBeq
namespace Go.Proofs.Ytebcclmilplfcaa
open Go.RowKit

/-- a list is answered, and a flag -/
def LsF (n : Nat) (s : Nat → Int) (B : Bool) (w : World) (e : Ending) (w' : World) : Prop :=
  ∃ a cap b, e = .returned (.tuple #[.slice a n cap, .bool B]) ∧ Ow a b n s w' ∧ (n = 0 ∨ w.heap.size ≤ b) ∧ Below w.heap.size w w'
/-- a list as a function -/
abbrev gL (T : List Int) : Nat → Int := fun k => T.getD k 0
theorem fl_gL (T : List Int) : fl (gL T) T.length = T := by
  apply List.ext_getElem
  · rw [fl_len]
  · intro i h1 h2
    have := fl_at (gL T) T.length i h2
    rw [List.getD_eq_getElem?_getD, List.getElem?_eq_getElem h1] at this
    simp only [Option.getD_some] at this
    rw [this]
    show T.getD i 0 = _
    rw [List.getD_eq_getElem?_getD, List.getElem?_eq_getElem h2]
    rfl
/-- the tones of which a codec made these bytes; none where there are none -/
noncomputable def exT (c : Nat) (B : List Int) : List Int := @dite _ (∃ T, Vld c (gL T) T.length B) (Classical.propDecidable _) (fun h => h.choose) (fun _ => [])
noncomputable def exO (c : Nat) (B : List Int) : Bool := @decide (∃ T, Vld c (gL T) T.length B) (Classical.propDecidable _)
theorem ex_is {c : Nat} {B T : List Int} (h : Vld c (gL T) T.length B) (hu : ∀ f n, Vld c f n B → T = fl f n) : exT c B = T ∧ exO c B = true := by
  have he : ∃ T, Vld c (gL T) T.length B := ⟨T, h⟩
  refine ⟨?_, ?_⟩
  · unfold exT
    rw [dif_pos he]
    have := hu _ _ he.choose_spec
    rw [fl_gL] at this
    exact this.symm
  · unfold exO
    exact @decide_eq_true _ (Classical.propDecidable _) he
theorem ex_no {c : Nat} {B : List Int} (h : ∀ T, ¬ Vld c (gL T) T.length B) : exT c B = [] ∧ exO c B = false := by
  have he : ¬ ∃ T, Vld c (gL T) T.length B := fun ⟨T, hT⟩ => h T hT
  refine ⟨?_, ?_⟩
  · unfold exT
    rw [dif_neg he]
  · unfold exO
    exact @decide_eq_false _ (Classical.propDecidable _) he
theorem ex_nil {c : Nat} {B : List Int} (h : ∀ T, ¬ Vld c (gL T) T.length B) (w w' : World) (a : Option Addr) (cap : Nat) (hb : Below w.heap.size w w') : LsF (exT c B).length (gL (exT c B)) (exO c B) w (.returned (.tuple #[.slice a 0 cap, .bool false])) w' := by
  rw [(ex_no h).1, (ex_no h).2]
  exact ⟨a, cap, 0, rfl, .inl rfl, .inl rfl, hb⟩
theorem own_le {w : World} {B n : Nat} {e : TypeId} {a : Option Addr} {m cap : Nat} {xs : List Value} (h : w.ownsRow B e 1 (.slice a m cap) n xs) : n ≤ cap := by
  obtain ⟨_, ⟨hv, h0⟩ | ⟨_, _, _, hv, _, _, hc, _⟩⟩ := h
  · omega
  · cases hv; exact hc
theorem sameU_is (L : List Int) (g : Nat → Int) (N : Nat) : sameU (fun k => L.getD k 0) L.length g N = decide (L = fl g N) := by
  unfold sameU
  by_cases h : L = fl g N
  · rw [decide_eq_true h]
    have hl : L.length = N := by rw [h, fl_len]
    rw [decide_eq_true hl, Bool.true_and]
    exact allG_of fun k hk => decide_eq_true (by show L.getD k 0 = g k; rw [h, fl_at _ _ _ (by omega)])
  · rw [decide_eq_false h, Bool.and_eq_false_iff]
    by_cases hl : L.length = N
    · right
      by_cases hA : allG (fun k => decide (L.getD k 0 = g k)) L.length = true
      · exfalso
        apply h
        rw [← fl_gL L, ← hl]
        exact fl_congr fun k hk => by have := allG_at hA k hk; simpa using this
      · simpa using hA
    · left; exact decide_eq_false hl

set_option maxRecDepth 100000 in
theorem implExpand_any (s : ByteArray) (a : Option Addr) (N cap : Nat) (g : Nat → Int) (hl : N ≤ 1048576) (hg : ∀ k, k < N → 0 ≤ g k ∧ g k ≤ 255) (w : World) (h : PxU a N g w) :
    Calls Try.prog 16 #[.string s, .slice a N cap] w (LsF (exT (cdN s) (fl g N)).length (gL (exT (cdN s) (fl g N))) (exO (cdN s) (fl g N)) w) := by
  have cN := codecNumber_any s w
  have HT : Hid (∀ w1, Below w.heap.size w w1 → Calls Try.prog 39 #[.slice a N cap, .int .i64 (cdN s)] w1 (TnR (cdN s) (fl g N) w1)) := fun w1 hb1 => by
    have hfl : (fl g N).length = N := fl_len g N
    have hgB : ∀ k, k < N → gB (fl g N) k = g k := fun k hk => fl_at g N k hk
    have := tonesIn_any a cap (fl g N) (by omega) (fun k hk => by rw [hfl] at hk; rw [hgB k hk]; exact hg k hk) (cdN s) (cdN_le s) w1 (by
      rw [hfl]
      rcases h.below hb1 with h | ⟨b, off, ha, hc⟩
      · exact .inl h
      · exact .inr ⟨b, off, ha, fun k hk => by rw [hgB k hk]; exact hc k hk⟩)
    rw [hfl] at this
    exact this
  have HP := hide h
  have HG := hide hg
  clear h hg
  generalize hB : fl g N = B at *
  have HB := hide hB
  clear hB
  go_enter Try.func16, Try.ntmps16
  go_wp2_with fail
  refine cN.mono ?_
  rintro e w1 ⟨rfl, hb1⟩
  have cT := HT.out w1 hb1
  have HB1 := hide hb1
  clear cN HT hb1
  go_wp2_with fail
  refine cT.mono ?_
  rintro e w2 ⟨L, v, rfl, HF⟩
  obtain ⟨hL, hV, ho, hb2⟩ := HF.out
  obtain ⟨a2, c2, rfl⟩ := own_form1 ho
  have hcp := own_le ho
  obtain ⟨a3, c3, b3, h3, ho3, hb3⟩ := ow_fl (f := gL L) (by rw [fl_gL]; exact ho)
  cases h3
  have HB2 := hide (bnext HB1.out (Nat.le_refl _) hb2)
  have HO3 := hide ho3
  have HV := hide hV
  have HB3 : Hid (L.length = 0 ∨ w.heap.size ≤ b3) := hb3.imp id (fun h => Nat.le_trans HB1.out.size h)
  have cC := implCompress_any s a2 L.length c2 (gL L) (by omega) hcp w2 ho3.px
  have HNV : Hid (¬ Vld (cdN s) (gL L) L.length B → ∀ T, ¬ Vld (cdN s) (gL T) T.length B) := fun h T hT => by
    have := HV.out _ _ hT
    rw [fl_gL] at this
    rw [this] at h
    exact h hT
  clear cT HF ho hb2 hcp ho3 hb3 hV HB1
  have hby := cmL_by (cdN s) (gL L) L.length
  have HVD : Hid (Vld (cdN s) (gL L) L.length B ↔ cmOk (cdN s) (gL L) L.length = true ∧ cmL (cdN s) (gL L) L.length = B) := Iff.rfl
  have HBY : Hid (∀ k, k < (cmL (cdN s) (gL L) L.length).length → 0 ≤ (fun k => (cmL (cdN s) (gL L) L.length).getD k 0) k ∧ (fun k => (cmL (cdN s) (gL L) L.length).getD k 0) k ≤ 255) := fun k hk => by
    show 0 ≤ (cmL (cdN s) (gL L) L.length).getD k 0 ∧ (cmL (cdN s) (gL L) L.length).getD k 0 ≤ 255
    rw [List.getD_eq_getElem?_getD, List.getElem?_eq_getElem hk]
    exact hby _ (List.getElem_mem hk)
  have HSU := hide (sameU_is (cmL (cdN s) (gL L) L.length) g N)
  rw [HB.out] at HSU
  unfold CmR at cC
  clear hby
  generalize cmL (cdN s) (gL L) L.length = M at *
  generalize hok : cmOk (cdN s) (gL L) L.length = ok at *
  have HOK := hide hok
  clear hok
  go_wp2_with fail
  refine cC.mono ?_
  rintro e w3 ⟨a4, c4, b4, rfl, ho4, -, hb4⟩
  have HB4 := hide (bnext HB2.out (Nat.le_refl _) hb4)
  have HO4 := hide (HO3.out.below' hb4)
  have cE := bytesEqual_any a4 a M.length c4 N cap (fun k => M.getD k 0) g HBY.out HG.out w3 ho4.pxU (HP.out.below HB4.out)
  rw [HSU.out] at cE
  clear cC ho4 hb4 HO3 HB2 HBY HSU HG HP
  cases ok with
  | false =>
    have HR : Hid (LsF (exT (cdN s) B).length (gL (exT (cdN s) B)) (exO (cdN s) B) w (.returned (.tuple #[.slice none 0 0, .bool false])) w3) := ex_nil (HNV.out (fun h => by have := (HVD.out.1 h).1; cases this)) w w3 none 0 HB4.out
    clear HNV HVD HOK HO4 HB4 HB3 HV cE
    go_wp2_with fail
    go_ret2
    exact HR.out
  | true =>
    by_cases hM : M = B
    · rw [decide_eq_true hM] at cE
      have hx := ex_is (HVD.out.2 ⟨rfl, hM⟩) HV.out
      have HR : Hid (LsF (exT (cdN s) B).length (gL (exT (cdN s) B)) (exO (cdN s) B) w (.returned (.tuple #[.slice a2 L.length c2, .bool true])) w3) := by
        show LsF _ _ _ _ _ _
        rw [hx.1, hx.2]
        exact ⟨a2, c2, b3, rfl, HO4.out, HB3.out, HB4.out⟩
      clear HNV HVD HOK HO4 HB4 HB3 HV hx hM
      go_wp2_with fail
      refine cE.mono ?_
      rintro e w4 ⟨rfl, rfl⟩
      clear cE
      go_wp2_with fail
      go_ret2
      exact HR.out
    · rw [decide_eq_false hM] at cE
      have HR : Hid (LsF (exT (cdN s) B).length (gL (exT (cdN s) B)) (exO (cdN s) B) w (.returned (.tuple #[.slice none 0 0, .bool false])) w3) := ex_nil (HNV.out (fun h => hM (HVD.out.1 h).2)) w w3 none 0 HB4.out
      clear HNV HVD HOK HO4 HB4 HB3 HV hM
      go_wp2_with fail
      refine cE.mono ?_
      rintro e w4 ⟨rfl, rfl⟩
      clear cE
      go_wp2_with fail
      go_ret2
      exact HR.out

end Go.Proofs.Ytebcclmilplfcaa
