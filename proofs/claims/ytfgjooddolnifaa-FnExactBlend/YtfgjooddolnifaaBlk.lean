/- Marks in lists of lists of pairs; the law on Blend, walked. -/
import Derived.Test.YtfgjooddolnifaaBll
namespace Go.Proofs.Ytfgjooddolnifaa
open Ieee Go.RowKit
attribute [local go_sem] run_store_float alloc_drewN setCell_drewN shape?_drewN

/-- what was there before stays, but for the blocks from s0 on and below s1 -/
structure KeptR (s0 s1 : Nat) (w w' : World) : Prop where
  os : w'.os = w.os
  tape : w'.tape = w.tape
  output : w'.output = w.output
  size : w.heap.size ≤ w'.heap.size
  block : ∀ k, k < w.heap.size → k < s0 ∨ s1 ≤ k → w'.heap[k]? = w.heap[k]?
theorem KeptR.refl (s0 s1 : Nat) (w : World) : KeptR s0 s1 w w := ⟨rfl, rfl, rfl, Nat.le_refl _, fun _ _ _ => rfl⟩
theorem KeptR.step {s0 s1 p : Nat} {w w1 w2 : World} (h : KeptR s0 s1 w w1) (hk : Kept p w1 w2) (h1 : s0 ≤ p) (h2 : p < s1) : KeptR s0 s1 w w2 :=
  ⟨hk.os.trans h.os, hk.tape.trans h.tape, hk.output.trans h.output, Nat.le_trans h.size hk.size, fun k hl ho => (hk.block k (Nat.lt_of_lt_of_le hl h.size) (by omega)).trans (h.block k hl ho)⟩
theorem KeptR.cell {s0 s1 : Nat} {w w' : World} (h : KeptR s0 s1 w w') {a : Addr} {v : Value} (ho : a.block < s0 ∨ s1 ≤ a.block) (hv : w.cell? a = some v) : w'.cell? a = some v := by
  rw [World.cell?_of_block (w := w) (h.block a.block (World.block_lt_of_cell? w a hv) ho)]; exact hv
theorem KeptR.frozen {s0 s1 : Nat} {w w' : World} (h : KeptR s0 s1 w w') {a : Addr} {v : Value} (ho : a.block < s0 ∨ s1 ≤ a.block) (hv : w.cell? a = some v) : w'.frozen? a = w.frozen? a := by
  have := h.block a.block (World.block_lt_of_cell? w a hv) ho
  simp only [World.frozen?, this]
theorem KeptR.below {s0 s1 B : Nat} {w w' : World} (h : KeptR s0 s1 w w') (h1 : B ≤ s0) (h2 : B ≤ w.heap.size) : Below B w w' :=
  ⟨h.os, h.tape, h.output, h.size, fun k hk => h.block k (Nat.lt_of_lt_of_le hk h2) (.inl (by omega))⟩
theorem OwV.keptR {a : Option Addr} {b len s0 s1 : Nat} {f : Nat → Value} {w w' : World} (h : OwV a b len f w) (hk : KeptR s0 s1 w w') (ho : len = 0 ∨ b < s0 ∨ s1 ≤ b) : OwV a b len f w' := by
  rcases ho with h0 | ho
  · exact .inl h0
  rcases h with h | ⟨rfl, h⟩
  · exact .inl h
  · refine .inr ⟨rfl, fun j hj => ⟨hk.cell ho (h j hj).1, ?_⟩⟩
    rw [hk.frozen ho (h j hj).1]; exact (h j hj).2
theorem St.keptR {w0 : World} {O : List OwnT} {w w' : World} {s0 s1 : Nat} (h : St w0 [] O w) (hk : KeptR s0 s1 w w') (h0 : w0.heap.size ≤ s0) (ho : ∀ x ∈ O, x.2.2.1 = 0 ∨ x.2.1 < s0 ∨ s1 ≤ x.2.1) : St w0 [] O w' :=
  ⟨h.below.trans (hk.below h0 h.below.size), fun x hx => (by cases hx), fun x hx => (h.ow x hx).keptR hk (ho x hx), fun b hb => ⟨(h.lt b hb).1, Nat.lt_of_lt_of_le (h.lt b hb).2 hk.size⟩, h.nd⟩
theorem RowV.kept {b len p : Nat} {f : Nat → Value} {w w' : World} (h : RowV b len f w) (hk : Kept p w w') (hb : b ≠ p) : RowV b len f w' := fun j hj =>
  ⟨hk.cell hb (h j hj).1, (hk.frozen (a := ⟨b, j, none⟩) hb (h j hj).1).trans (h j hj).2⟩

set_option maxHeartbeats 1000000 in
theorem markCxSS_any (o : Nat) (B : Nat → Nat) (m : Nat) (ln : Nat → Nat) (F : Nat → Nat → Nat) (s0 s1 : Nat) (hm : m + sumN ln m ≤ 1048576) (w : World) (h : OwS o B m ln F s0 s1 w) :
    Calls Try.prog 26 #[.slice (some ⟨o, 0, none⟩) m m, .int .i64 1] w fun e w' => e = .returned (.int .i64 (1 + (sumN ln m : Int) * 2)) ∧ KeptR s0 s1 w w' := by
  have HB := hide h.bt
  have HI := hide h.inc
  have HLo := hide h.lo
  go_enter Try.func26, Try.ntmps26
  go_wp2
  go_loopw [1, 5] (fun v i wr => ∃ k : Nat, k ≤ m ∧ i = .int .i64 k ∧ v = .int .i64 (1 + (sumN ln k : Int) * 2) ∧ KeptR s0 s1 w wr ∧ RowV o m (fun i => .slice (some ⟨B i, 0, none⟩) (ln i) (ln i)) wr ∧ (∀ i, i < m → ∃ G, RowV (B i) (ln i * 2) (flt G) wr)) (fun _ i _ => m - (intOf i).toNat)
  case atStart => exact ⟨0, by omega, rfl, by simp [sumN], KeptR.refl _ _ _, h.out, fun i hi => ⟨F i, h.inn i hi⟩⟩
  case round =>
    obtain ⟨k, hk, rfl, rfl, hkr, hro, hin⟩ := hrel
    clear h
    by_cases hlt : k < m
    · have hc := (hro k hlt).1
      obtain ⟨G, hG⟩ := hin k hlt
      have e1 : sumN ln (k + 1) = sumN ln k + ln k := rfl
      have l1 := sumN_mono (ln := ln) (k := k + 1) (m := m) (by omega)
      have E1 := hide e1
      have b1 := HB.out k hlt
      have b0 := HLo.out
      have cM := markCxS_any (some ⟨B k, 0, none⟩) (B k) (ln k) (ln k) G (1 + (sumN ln k : Int) * 2) (by omega) (by omega) (by omega) _ hG.ow
      have HR := hide hro
      have HIn := hide hin
      have HK := hide hkr
      have b2 : s0 ≤ B k := by omega
      have B2 := hide b2
      have B1 := hide b1
      clear hro hin hkr hG e1 l1 b1 b0 b2
      go_wp2_with fail
      refine cM.mono ?_
      rintro e w1 ⟨rfl, ho, hk1⟩
      have HR1 := hide (HR.out.kept hk1 (by have := B1.out; omega))
      have HIn1 : Hid (∀ i, i < m → ∃ G, RowV (B i) (ln i * 2) (flt G) w1) := fun i hi => by
        by_cases e : i = k
        · subst e
          rcases ho with h0 | ⟨-, ho⟩
          · exact ⟨fun _ => 0, fun j hj => absurd hj (by omega)⟩
          · exact ⟨_, ho⟩
        · obtain ⟨G', hG'⟩ := HIn.out i hi
          refine ⟨G', hG'.kept hk1 ?_⟩
          rcases Nat.lt_or_ge i k with h | h
          · have := HI.out i k h hlt; omega
          · have := HI.out k i (by omega) hi; omega
      have HK1 := hide (HK.out.step hk1 B2.out B1.out.2)
      clear ho hk1 HR HIn HK cM hc B1 B2
      go_wp2_with fail
      exact ⟨⟨k + 1, by omega, rfl, by rw [E1.out]; congr 1; omega, HK1.out, HR1.out, HIn1.out⟩, by simp [intOf]; omega⟩
    · obtain rfl : k = m := by omega
      clear hro hin HB HI HLo
      go_wp2
      go_ret
      exact ⟨rfl, hkr⟩

end Go.Proofs.Ytfgjooddolnifaa
