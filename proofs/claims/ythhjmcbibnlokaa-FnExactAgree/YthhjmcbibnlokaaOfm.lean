/- Marks of a list of offers. -/
import Derived.Test.YthhjmcbibnlokaaOfs
import Derived.Test.YthhjmcbibnlokaaKps
namespace Go.Proofs.Ythhjmcbibnlokaa
open Go.RowKit

theorem St.kps {w0 : World} {L : List BoxT} {O : List OwnT} {w w' : World} {S : Nat → Prop} (h : St w0 L O w) (hk : KpS S w w') (hS : ∀ b, S b → w0.heap.size ≤ b) (hd : ∀ b ∈ blocks L O, ¬ S b) : St w0 L O w' := by
  refine ⟨h.below.trans (hk.below hS h.below.size), fun x hx => hk.bx (hd _ (mem_blocks_box hx)) (h.lt _ (mem_blocks_box hx)).2 (h.bx x hx), fun x hx => ?_, fun b hb => ⟨(h.lt b hb).1, Nat.lt_of_lt_of_le (h.lt b hb).2 hk.size⟩, h.nd⟩
  rcases h.ow x hx with h0 | ⟨ha, hr⟩
  · exact .inl h0
  · by_cases h0 : x.2.2.1 = 0
    · exact .inl h0
    · have hb := mem_blocks_own (L := L) hx h0
      have e := hk.block _ (h.lt _ hb).2 (hd _ hb)
      refine .inr ⟨ha, fun k hk2 => ?_⟩
      rw [World.cell?_of_block (w := w) (a := ⟨x.2.1, k, none⟩) e, World.frozen?_of_block (w := w) (a := ⟨x.2.1, k, none⟩) e]
      exact hr k hk2
theorem OwO.below {o m : Nat} {B ln : Nat → Nat} {F : Nat → Nat → Int} {Bv : Nat → Int} {w w' : World} (h : OwO o m B ln F Bv w) (hb : Below w.heap.size w w') : OwO o m B ln F Bv w' :=
  ⟨h.pt.below hb h.olt, fun i hi => RowV.below (f := fun q => .int .i64 (F i q)) (h.row i hi) hb (h.lt i hi).2, fun i hi => ⟨(h.lt i hi).1, Nat.lt_of_lt_of_le (h.lt i hi).2 hb.size⟩, h.up, Nat.lt_of_lt_of_le h.olt hb.size⟩
/-- the blocks of a list of offers -/
def blO (o m : Nat) (B : Nat → Nat) : Nat → Prop := fun b => b = o ∨ ∃ i, i < m ∧ b = B i

set_option maxRecDepth 100000 in
set_option maxHeartbeats 4000000 in
theorem markOfferS_any (o m cap : Nat) (B ln : Nat → Nat) (F : Nat → Nat → Int) (Bv : Nat → Int) (hm : m + sumN ln m ≤ 1048576) (w : World) (h : OwO o m B ln F Bv w) :
    Calls Try.prog 13 #[.slice (some ⟨o, 0, none⟩) m cap, .int .i64 1] w fun e w' => e = .returned (.int .i64 (1 + (m : Int) + (sumN ln m : Int))) ∧ KpS (blO o m B) w w' := by
  have HLT := hide h.lt
  have HUP := hide h.up
  have HSL : Hid (∀ j, j < m → sumN ln j + ln j ≤ sumN ln m) := fun j hj => by
    have q : ∀ a b, a ≤ b → sumN ln a ≤ sumN ln b := fun a b hab => by
      induction b with
      | zero => obtain rfl : a = 0 := by omega
                exact Nat.le_refl _
      | succ b ih =>
        by_cases e : a = b + 1
        · rw [e]; exact Nat.le_refl _
        · exact Nat.le_trans (ih (by omega)) (by simp only [sumN]; omega)
    have := q (j + 1) m (by omega)
    simp only [sumN] at this
    exact this
  have HPT : Hid (∀ q, q < m → (∃ z0, w.cell? ⟨o, q * 2, none⟩ = some z0) ∧ w.cell? ⟨o, q * 2 + 1, none⟩ = some (.slice (some ⟨B q, 0, none⟩) (ln q) (ln q)) ∧ w.frozen? ⟨o, q * 2, none⟩ = false) := fun q hq => by
    obtain ⟨⟨z0, z1, c0, c1, e⟩, f0, f1⟩ := h.pt q hq
    obtain ⟨rfl, rfl⟩ := e hq
    exact ⟨⟨_, c0⟩, c1, f0⟩
  have HRW := hide h.row
  have HOL := hide h.olt
  clear h
  go_enter Try.func13, Try.ntmps13
  go_wp2_with fail
  go_loopw [1, 5] (fun k i wr => ∃ (j : Nat) (K : Int), j ≤ m ∧ i = .int .i64 j ∧ k = .int .i64 K ∧ Hid (K = 1 + (j : Int) + (sumN ln j : Int)) ∧ KpS (blO o m B) w wr ∧ wr.heap.size = w.heap.size ∧ Hid (∀ q, q < m → (∃ z0, wr.cell? ⟨o, q * 2, none⟩ = some z0) ∧ wr.cell? ⟨o, q * 2 + 1, none⟩ = some (.slice (some ⟨B q, 0, none⟩) (ln q) (ln q)) ∧ wr.frozen? ⟨o, q * 2, none⟩ = false) ∧ Hid (∀ q, j ≤ q → q < m → Row (B q) (ln q) (F q) wr)) (fun _ i _ => m - (intOf i).toNat)
  case atStart => exact ⟨0, 1, by omega, rfl, rfl, hide (by simp [sumN]), KpS.refl _ _, rfl, HPT, hide (fun q _ hq => HRW.out q hq)⟩
  case round =>
    obtain ⟨j, K, hj, rfl, rfl, HK, hk, hsz, HP2, HR2⟩ := hrel
    have HKP := hide hk
    have HSZ := hide hsz
    clear hk hsz HPT HRW
    by_cases hlt : j < m
    · have hlt' : (j : Int) < m := by omega
      obtain ⟨⟨z0, c0⟩, c1, f0⟩ := HP2.out j hlt
      have hsl := HSL.out j hlt
      have hkb : 1 ≤ K ∧ K ≤ 1048577 := by have := HK.out; omega
      have hbl := HLT.out j hlt
      obtain ⟨W, hW⟩ : ∃ W, W = wr.setCell ⟨o, j * 2, none⟩ (.int .i64 K) := ⟨_, rfl⟩
      have d1 : W.cell? ⟨o, j * 2 + 1, none⟩ = some (.slice (some ⟨B j, 0, none⟩) (ln j) (ln j)) := by
        rw [hW, World.cell?_setCell_other _ _ _ _ (by simp)]; exact c1
      have HKW : Hid (KpS (blO o m B) w W) := by rw [hW]; exact HKP.out.setCell (.inl rfl) _
      have HPW : Hid (∀ q, q < m → (∃ z0, W.cell? ⟨o, q * 2, none⟩ = some z0) ∧ W.cell? ⟨o, q * 2 + 1, none⟩ = some (.slice (some ⟨B q, 0, none⟩) (ln q) (ln q)) ∧ W.frozen? ⟨o, q * 2, none⟩ = false) := fun q hq => by
        obtain ⟨⟨y, c⟩, c', f'⟩ := HP2.out q hq
        rw [hW]
        refine ⟨?_, by rw [World.cell?_setCell_other _ _ _ _ (by simp; try omega)]; exact c', by simpa using f'⟩
        by_cases e : q = j
        · subst e; exact ⟨_, World.cell?_setCell_same _ _ _ c⟩
        · exact ⟨y, by rw [World.cell?_setCell_other _ _ _ _ (by simp; try omega)]; exact c⟩
      have HRW : Hid (∀ q, j ≤ q → q < m → Row (B q) (ln q) (F q) W) := fun q h1 h2 => by
        rw [hW]
        exact (HR2.out q h1 h2).set (by have := (HLT.out q h2).1; show o ≠ _; omega) _
      have HSW : Hid (W.heap.size = w.heap.size) := by show _ = _; rw [hW]; simpa using HSZ.out
      have cM := mark_any (some ⟨B j, 0, none⟩) (B j) (ln j) (ln j) (F j) (K + 1) (by omega) (by omega) (by omega) W (.inr ⟨rfl, HRW.out j (Nat.le_refl _) hlt⟩)
      have hW' := hW.symm
      have e1 : sumN ln (j + 1) = sumN ln j + ln j := rfl
      have E1 := hide e1
      clear hW HP2 HR2 HKP HSZ e1 c1
      go_wp2_with fail
      refine cM.mono ?_
      rintro e w1 ⟨rfl, ho1, hk1, hs1⟩
      have HK1 : Hid (KpS (blO o m B) w w1) := HKW.out.trans ⟨hk1.os, hk1.tape, hk1.output, hk1.size, fun b hb hs => hk1.block b hb (fun e => hs (.inr ⟨j, hlt, e⟩))⟩
      have HS1 : Hid (w1.heap.size = w.heap.size) := by show _ = _; rw [hs1]; exact HSW.out
      have HP1 : Hid (∀ q, q < m → (∃ z0, w1.cell? ⟨o, q * 2, none⟩ = some z0) ∧ w1.cell? ⟨o, q * 2 + 1, none⟩ = some (.slice (some ⟨B q, 0, none⟩) (ln q) (ln q)) ∧ w1.frozen? ⟨o, q * 2, none⟩ = false) := fun q hq => by
        obtain ⟨⟨y, c⟩, c', f'⟩ := HPW.out q hq
        have ho : o ≠ B j := by omega
        exact ⟨⟨y, hk1.cell ho c⟩, hk1.cell ho c', (hk1.frozen (a := ⟨o, q * 2, none⟩) ho c).trans f'⟩
      have HR1 : Hid (∀ q, j + 1 ≤ q → q < m → Row (B q) (ln q) (F q) w1) := fun q h1 h2 k hk2 => by
        have := HRW.out q (by omega) h2 k hk2
        have hne : B q ≠ B j := by have := HUP.out j q (by omega) h2; omega
        exact ⟨hk1.cell (a := ⟨B q, k, none⟩) hne this.1, (hk1.frozen (a := ⟨B q, k, none⟩) hne this.1).trans this.2⟩
      have HKK : Hid (K + 1 + (ln j : Int) = 1 + ((j + 1 : Nat) : Int) + (sumN ln (j + 1) : Int)) := by show _ = _; rw [E1.out]; have := HK.out; omega
      clear cM ho1 hk1 hs1 HKW HPW HRW HSW d1 hW' c0 f0
      go_wp2_with fail
      go_roundw
      case rel => exact ⟨j + 1, K + 1 + (ln j : Int), hlt, by go_num, rfl, HKK, HK1.out, HS1.out, HP1, HR1⟩
      case measure => simp [intOf]; omega
    · obtain rfl : j = m := by omega
      have HE := hide HK.out
      clear HP2 HR2 HK
      go_wp2_with fail
      go_ret
      exact ⟨by rw [← HE.out]; rfl, HKP.out⟩

end Go.Proofs.Ythhjmcbibnlokaa
