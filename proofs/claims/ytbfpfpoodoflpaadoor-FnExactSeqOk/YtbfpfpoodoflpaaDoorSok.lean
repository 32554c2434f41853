/- Are they a sequence: the specification and the program. -/
import Derived.Test.YtbfpfpoodoflpaaDoorPok
namespace Go.Proofs.YtbfpfpoodoflpaaDoor
open Go.RowKit

/-- by how many loops more are open behind an order -/
def nestZ (K : Int) : Int := if K = 6 then 1 else if K = 7 then -1 else 0
/-- how many loops are open behind the first k orders -/
def openZ (g : Nat → Int) : Nat → Int
  | 0 => 0
  | k + 1 => openZ g k + nestZ (g (k * 4))
/-- is the k-th order right, and not too many loops open behind it -/
def okAt (g : Nat → Int) (k : Nat) : Bool := pulB (g (k * 4)) (g (k * 4 + 1)) (g (k * 4 + 2)) (g (k * 4 + 3)) && inB (openZ g (k + 1)) 0 8
/-- are they a sequence -/
def seqB (g : Nat → Int) (n : Nat) : Bool := decide (n ≤ 400) && (allG (okAt g) n && (openZ g n == 0))

theorem openZ_bd {g : Nat → Int} : ∀ {k : Nat}, allG (okAt g) k = true → 0 ≤ openZ g k ∧ openZ g k ≤ 8
  | 0, _ => ⟨Int.le_refl _, by show (0 : Int) ≤ 8; omega⟩
  | k + 1, h => by
    have := allG_at h k (by omega)
    unfold okAt inB at this
    simp only [Bool.and_eq_true, decide_eq_true_eq] at this
    exact this.2
theorem nestZ_bd (K : Int) : -1 ≤ nestZ K ∧ nestZ K ≤ 1 := by unfold nestZ; split <;> (try split) <;> omega
theorem seqB_no {g : Nat → Int} {n k : Nat} (hk : k < n) (h : okAt g k = false) : seqB g n = false := by
  unfold seqB; rw [allG_no k hk h]; simp
theorem allG_succ {p : Nat → Bool} {k : Nat} (h : allG p k = true) (h' : p k = true) : allG p (k + 1) = true := by
  show (allG p k && p k) = true
  rw [h, h']; rfl

theorem nestStep_any (K : Int) (w : World) : Calls Tryd.prog 64 #[.int .i64 K] w fun e w' => e = .returned (.int .i64 (nestZ K)) ∧ w' = w := by
  unfold nestZ
  by_cases h6 : K = 6
  · subst h6
    go_enter Tryd.func64, Tryd.ntmps64
    go_wp2
    go_ret
    exact ⟨rfl, rfl⟩
  by_cases h7 : K = 7
  · subst h7
    go_enter Tryd.func64, Tryd.ntmps64
    go_wp2
    go_ret
    exact ⟨rfl, rfl⟩
  rw [if_neg h6, if_neg h7]
  go_enter Tryd.func64, Tryd.ntmps64
  go_wp2
  go_ret
  exact ⟨rfl, rfl⟩

set_option maxHeartbeats 2000000 in
theorem implSeq_any (a : Option Addr) (len cap : Nat) (g : Nat → Int) (hl : len ≤ 1048576) (w : World) (h : Px a (len * 4) g w) (hF : Frm w) :
    Calls Tryd.prog 30 #[.slice a len cap] w fun e w' => e = .returned (.bool (seqB g len)) ∧ Below w.heap.size w w' := by
  by_cases hbig : 400 < len
  · have hf : seqB g len = false := by unfold seqB; rw [decide_eq_false (by omega)]; rfl
    have hb : (400 : Int) < (len : Int) := by omega
    rw [hf]
    clear h hF hf hbig
    go_enter Tryd.func30, Tryd.ntmps30
    go_wp2
    go_ret
    exact ⟨rfl, Below.refl _ _⟩
  have hL : ¬ (400 : Int) < (len : Int) := by omega
  have HP := hide h
  have HF := hide hF
  clear h hF hbig
  go_enter Tryd.func30, Tryd.ntmps30
  go_wp2_with fail
  go_loopw [3, 5, 11] (fun o _ i wr => ∃ k : Nat, k ≤ len ∧ i = .int .i64 k ∧ o = .int .i64 (openZ g k) ∧ allG (okAt g) k = true ∧ Below w.heap.size w wr) (fun _ _ i _ => len - (intOf i).toNat)
  case atStart => exact ⟨0, by omega, rfl, rfl, rfl, Below.refl _ _⟩
  case round =>
    obtain ⟨k, hk, rfl, rfl, ha, hb⟩ := hrel
    obtain ⟨o0, o8⟩ := openZ_bd ha
    by_cases hlt : k < len
    · obtain ⟨b, off, rfl, hbl, z0, z1, z2, z3⟩ := (HP.out.below hb).atPulse hlt
      have cN := nestStep_any (g (k * 4))
      obtain ⟨n0, n1⟩ := nestZ_bd (g (k * 4))
      have cP := fun w' h => implPulse_any (g (k * 4)) (g (k * 4 + 1)) (g (k * 4 + 2)) (g (k * 4 + 3)) w' h
      have HB := hide hb
      have HBa := hide (bnext hb (Nat.le_refl _) (bnew wr (cPulse (g (k * 4)) (g (k * 4 + 1)) (g (k * 4 + 2)) (g (k * 4 + 3)) 27)))
      have fA := HF.out.below HBa.out
      have cO := within_any (openZ g k + nestZ (g (k * 4))) 0 8
      have HQ : Hid (okAt g k = (pulB (g (k * 4)) (g (k * 4 + 1)) (g (k * 4 + 2)) (g (k * 4 + 3)) && inB (openZ g k + nestZ (g (k * 4))) 0 8)) := rfl
      have HA := hide ha
      have HE : Hid (openZ g (k + 1) = openZ g k + nestZ (g (k * 4))) := rfl
      clear hb ha HP HF hbl
      generalize nestZ (g (k * 4)) = nz at *
      generalize openZ g k = oz at *
      cases hp : pulB (g (k * 4)) (g (k * 4 + 1)) (g (k * 4 + 2)) (g (k * 4 + 3))
      · rw [hp] at cP
        have hsf : seqB g len = false := seqB_no hlt (by rw [HQ.out, hp]; rfl)
        have HS := hide hsf
        clear hp hsf HQ cO
        go_wp2_with fail
        refine (cN _).mono ?_
        rintro e w1 ⟨rfl, rfl⟩
        go_wp2_with fail
        refine (cP _ fA).mono ?_
        rintro e w2 ⟨rfl, hb2⟩
        have HB2 := hide (bnext HBa.out (Nat.le_refl _) hb2)
        clear hb2 cP cN
        go_wp2_with fail
        go_ret
        exact ⟨by rw [HS.out]; rfl, HB2.out⟩
      · rw [hp] at cP
        cases ho : inB (oz + nz) 0 8
        · rw [ho] at cO
          have hsf : seqB g len = false := seqB_no hlt (by rw [HQ.out, hp, ho]; rfl)
          have HS := hide hsf
          clear hp hsf HQ ho
          go_wp2_with fail
          refine (cN _).mono ?_
          rintro e w1 ⟨rfl, rfl⟩
          go_wp2_with fail
          refine (cP _ fA).mono ?_
          rintro e w2 ⟨rfl, hb2⟩
          have HB2 := hide (bnext HBa.out (Nat.le_refl _) hb2)
          clear hb2 cP cN
          go_wp2_with fail
          refine (cO _).mono ?_
          rintro e w3 ⟨rfl, rfl⟩
          go_wp2_with fail
          go_ret
          exact ⟨by rw [HS.out]; rfl, HB2.out⟩
        · rw [ho] at cO
          have HA1 : Hid (allG (okAt g) (k + 1) = true) := allG_succ HA.out (by rw [HQ.out, hp, ho]; rfl)
          clear hp HQ ho HA
          go_wp2_with fail
          refine (cN _).mono ?_
          rintro e w1 ⟨rfl, rfl⟩
          go_wp2_with fail
          refine (cP _ fA).mono ?_
          rintro e w2 ⟨rfl, hb2⟩
          have HB2 := hide (bnext HBa.out (Nat.le_refl _) hb2)
          clear hb2 cP cN
          go_wp2_with fail
          refine (cO _).mono ?_
          rintro e w3 ⟨rfl, rfl⟩
          go_wp2_with fail
          exact ⟨⟨k + 1, by omega, rfl, by rw [HE.out], HA1.out, HB2.out⟩, by simp [intOf]; omega⟩
    · obtain rfl : k = len := by omega
      have HS : Hid (seqB g k = (openZ g k == 0)) := by show _ = _; unfold seqB; rw [ha, decide_eq_true (by omega)]; simp
      have HB := hide hb
      clear ha hb
      go_wp2_with fail
      go_ret
      exact ⟨by rw [HS.out]; rfl, HB.out⟩

set_option maxHeartbeats 4000000 in
theorem specSeq_any (a : Option Addr) (len cap : Nat) (g : Nat → Int) (hl : len ≤ 1048576) (w : World) (h : Px a (len * 4) g w) :
    Calls Tryd.prog 13 #[.slice a len cap] w fun e w' => e = .returned (.bool (seqB g len)) ∧ Below w.heap.size w w' := by
  by_cases hbig : 400 < len
  · have hf : seqB g len = false := by unfold seqB; rw [decide_eq_false (by omega)]; rfl
    have hb : (400 : Int) < (len : Int) := by omega
    rw [hf]
    clear h hf hbig
    go_enter Tryd.func13, Tryd.ntmps13
    go_wp2
    go_ret
    exact ⟨rfl, Below.refl _ _⟩
  have hL : ¬ (400 : Int) < (len : Int) := by omega
  have HP := hide h
  clear h hbig
  go_enter Tryd.func13, Tryd.ntmps13
  go_wp2_with fail
  go_loopw [3, 4] (fun o i wr => ∃ k : Nat, k ≤ len ∧ i = .int .i64 k ∧ o = .int .i64 (openZ g k) ∧ allG (okAt g) k = true ∧ Below w.heap.size w wr) (fun _ i _ => len - (intOf i).toNat)
  case atStart => exact ⟨0, by omega, rfl, rfl, rfl, Below.refl _ _⟩
  case round =>
    obtain ⟨k, hk, rfl, rfl, ha, hb⟩ := hrel
    obtain ⟨o0, o8⟩ := openZ_bd ha
    by_cases hlt : k < len
    · obtain ⟨b, off, rfl, hbl, z0, z1, z2, z3⟩ := (HP.out.below hb).atPulse hlt
      have HZ := hide z0
      have cP := specPulse_any (g (k * 4)) (g (k * 4 + 1)) (g (k * 4 + 2)) (g (k * 4 + 3))
      have HB := hide hb
      have HQ : Hid (okAt g k = (pulB (g (k * 4)) (g (k * 4 + 1)) (g (k * 4 + 2)) (g (k * 4 + 3)) && inB (openZ g k + nestZ (g (k * 4))) 0 8)) := rfl
      have HA := hide ha
      have HE : Hid (openZ g (k + 1) = openZ g k + nestZ (g (k * 4))) := rfl
      clear hb ha HP
      generalize openZ g k = oz at *
      cases hp : pulB (g (k * 4)) (g (k * 4 + 1)) (g (k * 4 + 2)) (g (k * 4 + 3))
      · rw [hp] at cP
        have hsf : seqB g len = false := seqB_no hlt (by rw [HQ.out, hp]; rfl)
        have HS := hide hsf
        clear hp hsf HQ
        go_wp2_with fail
        refine (cP _).mono ?_
        rintro e w2 ⟨rfl, hb2⟩
        have HB2 := hide (bnext HB.out (Nat.le_refl _) hb2)
        clear hb2 cP z0 z1 z2 z3
        go_wp2_with fail
        go_ret
        exact ⟨by rw [HS.out]; rfl, HB2.out⟩
      · rw [hp] at cP
        go_wp2_with fail
        refine (cP _).mono ?_
        rintro e w2 ⟨rfl, hb2⟩
        have HB2 := hide (bnext HB.out (Nat.le_refl _) hb2)
        have y0 := (hb2.cell (p := ⟨b, off + k * 4, none⟩) hbl).trans HZ.out
        clear hb2 cP z0 z1 z2 z3 HZ hbl HB
        rw [hp, Bool.true_and] at HQ
        clear hp
        generalize g (k * 4) = K at *
        have hn : (K = 6 ∧ nestZ K = 1) ∨ (K = 7 ∧ nestZ K = -1) ∨ ((K == 6) = false ∧ (K == 7) = false ∧ nestZ K = 0) := by
          unfold nestZ
          by_cases h6 : K = 6
          · exact .inl ⟨h6, by rw [if_pos h6]⟩
          · by_cases h7 : K = 7
            · exact .inr (.inl ⟨h7, by rw [if_neg h6, if_pos h7]⟩)
            · exact .inr (.inr ⟨by simpa using h6, by simpa using h7, by rw [if_neg h6, if_neg h7]⟩)
        rcases hn with ⟨rfl, hn⟩ | ⟨rfl, hn⟩ | ⟨h6, h7, hn⟩
        all_goals
          rw [hn] at HQ HE
          clear hn
        · by_cases ho : oz + 1 ≤ 8
          · have HA1 : Hid (allG (okAt g) (k + 1) = true) := allG_succ HA.out (by rw [HQ.out]; unfold inB; simp; omega)
            clear HQ HA
            go_wp2_with fail
            exact ⟨⟨k + 1, by omega, rfl, by rw [HE.out], HA1.out, HB2.out⟩, by simp [intOf]; omega⟩
          · have HS : Hid (seqB g len = false) := seqB_no hlt (by rw [HQ.out]; unfold inB; simp; omega)
            clear HQ HA
            go_wp2_with fail
            go_ret
            exact ⟨by rw [HS.out]; rfl, HB2.out⟩
        · by_cases ho : 1 ≤ oz
          · have HA1 : Hid (allG (okAt g) (k + 1) = true) := allG_succ HA.out (by rw [HQ.out]; unfold inB; simp; omega)
            clear HQ HA
            go_wp2_with fail
            exact ⟨⟨k + 1, by omega, rfl, by rw [HE.out]; rfl, HA1.out, HB2.out⟩, by simp [intOf]; omega⟩
          · have HS : Hid (seqB g len = false) := seqB_no hlt (by rw [HQ.out]; unfold inB; simp; omega)
            clear HQ HA
            go_wp2_with fail
            go_ret
            exact ⟨by rw [HS.out]; rfl, HB2.out⟩
        · have HA1 : Hid (allG (okAt g) (k + 1) = true) := allG_succ HA.out (by rw [HQ.out]; unfold inB; simp; omega)
          clear HQ HA
          go_wp2_with fail
          exact ⟨⟨k + 1, by omega, rfl, by rw [HE.out, Int.add_zero], HA1.out, HB2.out⟩, by simp [intOf]; omega⟩
    · obtain rfl : k = len := by omega
      have HS : Hid (seqB g k = (openZ g k == 0)) := by show _ = _; unfold seqB; rw [ha, decide_eq_true (by omega)]; simp
      have HB := hide hb
      clear ha hb
      go_wp2_with fail
      go_ret
      exact ⟨by rw [HS.out]; rfl, HB.out⟩

end Go.Proofs.YtbfpfpoodoflpaaDoor
