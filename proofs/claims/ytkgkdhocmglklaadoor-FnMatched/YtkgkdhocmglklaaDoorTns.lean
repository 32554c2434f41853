/- The twelve turns: both sides. -/
import Derived.Test.YtkgkdhocmglklaaDoorTnt
import Derived.Deep.MidRow
import Derived.Deep.DeepCutAuto
namespace Go.Proofs.YtkgkdhocmglklaaDoor
open Go.RowKit

set_option maxRecDepth 100000 in
theorem infoTu : ∃ i, Tryd.prog.info? 28 = some i ∧ i.zero = some (vTurn 0 0 0 0) ∧ i.size = 4 ∧ i.bytes = 32 := ⟨_, rfl, rfl, rfl, rfl⟩

/-- a turn is appended to a list of the call's own -/
theorem growTu (w : World) {ops : Array Oper} {rest : List Oper} {o : Oper} {a : Act} {Q : Exit → Act → World → Prop} (hgd : o.guard = none) (s x : Operand)
    (ho : o.op = .call { callee := .builtin .append, args := #[s, x], argTypes := #[37, 37] }) (B : Nat) (v : Value) (n : Nat) (L : List Int) (hs : a.eval s = v) (w0 : World) (hown : w.ownsRow B 28 4 v n (ints L))
    (hb : Below B w0 w) (hB : B ≤ w.heap.size) (x0 x1 x2 x3 : Int) (hx : a.eval x = .slice (some ⟨w.heap.size, 0, none⟩) 1 1) (hn : n ≤ 1048576)
    (h : ∀ v' w', w'.ownsRow B 28 4 v' (n + 1) (ints (L ++ [x0, x1, x2, x3])) → Below B w0 w' → w.heap.size < w'.heap.size → wpList Tryd.prog ops Q rest (a.put o.dst v') w') :
    wpList Tryd.prog ops Q (o :: rest) a (w.alloc (.cells #[.int .i64 x0, .int .i64 x1, .int .i64 x2, .int .i64 x3] 28)) := by
  obtain ⟨ti, hi1, hi2, hi3, hi4⟩ := infoTu
  exact grow w hgd s x 37 ho B 28 ti (vTurn 0 0 0 0) 4 32 Tryd.underlying37 hi1 hi2 hi3 hi4 rfl (by omega) v n L hs w0 hown hb hB [x0, x1, x2, x3] 1 1 hx rfl (by unfold maxLen; omega) (by omega) h

theorem owns_keptB {w w' : World} {B n m : Nat} {e : TypeId} {v : Value} {xs : List Value} (h : w.ownsRow B e m v n xs) (hb : Below w.heap.size w w') : w'.ownsRow B e m v n xs := by
  have hl := h.lt
  obtain ⟨h1, h2⟩ := h
  refine ⟨h1, ?_⟩
  rcases h2 with h2 | ⟨g, cap, cur, hv, hB, hg, hr⟩
  · exact .inl h2
  · exact .inr ⟨g, cap, cur, hv, hB, (hb.block g (hl g (by rw [hv]; rfl)).2).trans hg, hr⟩

/-- the twelve turns are answered -/
def TwR (w : World) (e : Ending) (w' : World) : Prop := ∃ v, e = .returned v ∧ w'.ownsRow w.heap.size 28 4 v 12 (ints tbA) ∧ Below w.heap.size w w'

theorem tn_parts {n : Nat} (hn : n ≤ 624) : ∃ a b c d : Int, a = (n : Int) / 125 - 2 ∧ b = (n : Int) / 25 % 5 - 2 ∧ c = (n : Int) / 5 % 5 - 2 ∧ d = (n : Int) % 5 - 2 ∧ (-2 ≤ a ∧ a ≤ 2) ∧ (-2 ≤ b ∧ b ≤ 2) ∧ (-2 ≤ c ∧ c ≤ 2) ∧ (-2 ≤ d ∧ d ≤ 2) ∧
    (n : Int) / 125 = a + 2 ∧ (n : Int) / 25 % 5 = b + 2 ∧ (n : Int) / 5 % 5 = c + 2 ∧ (n : Int) % 5 = d + 2 :=
  ⟨_, _, _, _, rfl, rfl, rfl, rfl, by omega, by omega, by omega, by omega, by omega, by omega, by omega, by omega⟩

set_option maxRecDepth 100000 in
set_option maxHeartbeats 4000000 in
theorem specTurns_any (w : World) : Calls Tryd.prog 42 #[] w (TwR w) := by
  have hb0 := bnew w (.cells #[] 28)
  have HO0 : Hid ((w.alloc (.cells #[] 28)).ownsRow w.heap.size 28 4 (.slice (some ⟨w.heap.size, 0, none⟩) 0 0) 0 (ints [])) := World.ownsRow_lit w #[] 0 (Nat.le_refl _) (by unfold maxLen; omega) rfl
  have HB0 := hide hb0
  clear hb0
  go_enter Tryd.func42, Tryd.ntmps42
  go_upto_region 2 with fail
  generalize hw1 : w.alloc (.cells #[] 28) = w1 at *
  clear hw1
  go_wp2_with fail
  go_loopw [1, 2] (fun s i wr => ∃ (v : Value) (m : Nat), v = s ∧ m ≤ 625 ∧ i = .int .i64 (624 - (m : Int)) ∧ wr.ownsRow w.heap.size 28 4 v (tnC m) (ints (tnL m)) ∧ Below w.heap.size w wr) (fun _ i _ => (intOf i + 1).toNat)
  case atStart => exact ⟨_, 0, rfl, by omega, rfl, HO0.out, HB0.out⟩
  case round =>
    obtain ⟨v, m, rfl, hm, rfl, ho, hb⟩ := hrel
    have HO := hide ho
    have HB := hide hb
    clear ho hb HO0 HB0
    by_cases hlt : m < 625
    · obtain ⟨n, hn⟩ : ∃ n : Nat, n = 624 - m := ⟨_, rfl⟩
      have hnm : 624 - (m : Int) = n := by omega
      rw [hnm]
      have hn6 : n ≤ 624 := by omega
      have hC := tnC_le m
      obtain ⟨a, b, c, d, ea, eb, ec, ed, ba, bb, bc, bd, q1, q2, q3, q4⟩ := tn_parts hn6
      have hstep : tnL (m + 1) = (if tnK a b c d = true then tnL m ++ [a, b, c, d] else tnL m) ∧ tnC (m + 1) = (if tnK a b c d = true then tnC m + 1 else tnC m) := by
        rw [ea, eb, ec, ed]
        refine ⟨?_, ?_⟩ <;> simp only [tnL, tnC, tnQ, tnT, ← hn]
      have hs2 : 624 - ((m + 1 : Nat) : Int) = (n : Int) - 1 := by omega
      have HT := hide hstep
      have HSZ := hide HB.out.size
      have HS2 := hide hs2
      obtain ⟨v0, hv0⟩ : ∃ v0, v0 = v := ⟨_, rfl⟩
      have cT := fun w' => specTurnOk_any a b c d (by omega) (by omega) (by omega) (by omega) w'
      have HX := hide (Bx.new [.int .i64 a, .int .i64 b, .int .i64 c, .int .i64 d] 28 wr)
      have HXB := hide (bnew wr (.cells #[.int .i64 a, .int .i64 b, .int .i64 c, .int .i64 d] 28))
      have hF : (a ≠ 0 ∧ tnF a b c d = a) ∨ (a = 0 ∧ b ≠ 0 ∧ tnF a b c d = b) ∨ (a = 0 ∧ b = 0 ∧ c ≠ 0 ∧ tnF a b c d = c) ∨ (a = 0 ∧ b = 0 ∧ c = 0 ∧ tnF a b c d = d) := by
        unfold tnF
        repeat' split
        all_goals omega
      clear ea eb ec ed hstep hs2 hnm hn
      go_upto_region 6 with fail
      generalize hwX : wr.alloc (.cells #[.int .i64 a, .int .i64 b, .int .i64 c, .int .i64 d] 28) = wX at *
      have HX' : Hid (Bx wr.heap.size [.int .i64 a, .int .i64 b, .int .i64 c, .int .i64 d] wX) := HX.out
      have HOX := hide (owns_keptB HO.out HXB.out)
      have HBX := hide (HB.out.trans (HXB.out.mono HSZ.out))
      have HKL : Hid (w.heap.size ≤ wr.heap.size ∧ wr.heap.size < wX.heap.size) := ⟨HSZ.out, by rw [← hwX]; simp⟩
      clear HX HO HB HSZ HXB q1 q2 q3 q4 hv0 v0
      generalize wr.heap.size = X at *
      obtain ⟨x0, x1, x2, x3⟩ : wX.cell? ⟨X, 0, none⟩ = some (.int .i64 a) ∧ wX.cell? ⟨X, 1, none⟩ = some (.int .i64 b) ∧ wX.cell? ⟨X, 2, none⟩ = some (.int .i64 c) ∧ wX.cell? ⟨X, 3, none⟩ = some (.int .i64 d) :=
        ⟨(HX'.out 0 _ rfl).1, (HX'.out 1 _ rfl).1, (HX'.out 2 _ rfl).1, (HX'.out 3 _ rfl).1⟩
      have fin : ∀ v' w' q, tnK a b c d = q → (w'.ownsRow w.heap.size 28 4 v' (if q = true then tnC m + 1 else tnC m) (ints (if q = true then tnL m ++ [a, b, c, d] else tnL m))) → Below w.heap.size w w' →
          (∃ (v : Value) (m : Nat), v = v' ∧ m ≤ 625 ∧ Value.int .i64 ((n : Int) - 1) = .int .i64 (624 - (m : Int)) ∧ w'.ownsRow w.heap.size 28 4 v (tnC m) (ints (tnL m)) ∧ Below w.heap.size w w') := by
        intro v' w' q hq h1 h2
        subst hq
        exact ⟨v', m + 1, rfl, by omega, by rw [HS2.out], by rw [HT.out.1, HT.out.2]; exact h1, h2⟩
      have FIN := hide fin
      clear fin hwX
      have HK : Hid (∀ q, tkB a b c d = q → tnK a b c d = (q && decide (0 < tnF a b c d))) := fun q hq => by unfold tnK; rw [hq]
      obtain ⟨q, hq⟩ : ∃ q, tkB a b c d = q := ⟨_, rfl⟩
      simp only [hq] at cT
      have HK := hide (HK.out q hq)
      clear hq HT HS2 hC
      have HF := hide hF
      clear hF
      have HM : Hid (tnC m ≤ 625) := Nat.le_trans (tnC_le m) hm
      go_upto_region 13 with fail
      all_goals
        go_wp2_with fail
        refine (cT _).mono ?_
        rintro e wT ⟨rfl, hbT⟩
        have HOT := hide (owns_keptB HOX.out hbT)
        have HBT := hide (HBX.out.trans (hbT.mono (Nat.le_trans HKL.out.1 (Nat.le_of_lt HKL.out.2))))
        have HXT := hide (HX'.out.below hbT HKL.out.2)
        have HLT := hide (Nat.le_trans HKL.out.1 (Nat.le_trans (Nat.le_of_lt HKL.out.2) hbT.size))
        clear hbT HOX HBX HX' x0 x1 x2 x3 cT
        obtain ⟨x0, x1, x2, x3⟩ : wT.cell? ⟨X, 0, none⟩ = some (.int .i64 a) ∧ wT.cell? ⟨X, 1, none⟩ = some (.int .i64 b) ∧ wT.cell? ⟨X, 2, none⟩ = some (.int .i64 c) ∧ wT.cell? ⟨X, 3, none⟩ = some (.int .i64 d) :=
          ⟨(HXT.out 0 _ rfl).1, (HXT.out 1 _ rfl).1, (HXT.out 2 _ rfl).1, (HXT.out 3 _ rfl).1⟩
        cases q
        · have hk : tnK a b c d = false := HK.out
          have HFI := hide (FIN.out v wT false hk HOT.out HBT.out)
          clear FIN HK HF hk
          go_wp2_with fail
          exact ⟨HFI.out, by simp [intOf] <;> omega⟩
        by_cases hp : 0 < tnF a b c d
        · have hk : tnK a b c d = true := by rw [HK.out]; simp [hp]
          have hs : ((a == 0) = false → 0 < a) ∧ ((a == 0) = true → (b == 0) = false → 0 < b) ∧ ((a == 0) = true → (b == 0) = true → (c == 0) = false → 0 < c) ∧ ((a == 0) = true → (b == 0) = true → (c == 0) = true → 0 < d) := by
            simp only [beq_iff_eq, beq_eq_false_iff_ne, ne_eq]
            have := HF.out
            omega
          first
            | (have hs' := hs.1 (by assumption))
            | (have hs' := hs.2.1 (by assumption) (by assumption))
            | (have hs' := hs.2.2.1 (by assumption) (by assumption) (by assumption))
            | (have hs' := hs.2.2.2 (by assumption) (by assumption) (by assumption))
          clear HK HF hs hp
          go_wp2_with (refine growTu _ rfl _ _ rfl w.heap.size v (tnC m) (tnL m) rfl w HOT.out HBT.out HLT.out a b c d rfl (Nat.le_trans HM.out (by omega)) ?_)
          intro v' w' ho' hb' hs2
          have HFI := hide (FIN.out v' w' true hk ho' hb')
          clear FIN hk ho' hb' hs2
          go_wp2_with fail
          exact ⟨HFI.out, by simp [intOf] <;> omega⟩
        · have hk : tnK a b c d = false := by rw [HK.out]; simp [hp]
          have hs : ((a == 0) = false → ¬ 0 < a) ∧ ((a == 0) = true → (b == 0) = false → ¬ 0 < b) ∧ ((a == 0) = true → (b == 0) = true → (c == 0) = false → ¬ 0 < c) ∧ ((a == 0) = true → (b == 0) = true → (c == 0) = true → ¬ 0 < d) := by
            simp only [beq_iff_eq, beq_eq_false_iff_ne, ne_eq]
            have := HF.out
            omega
          first
            | (have hs' := hs.1 (by assumption))
            | (have hs' := hs.2.1 (by assumption) (by assumption))
            | (have hs' := hs.2.2.1 (by assumption) (by assumption) (by assumption))
            | (have hs' := hs.2.2.2 (by assumption) (by assumption) (by assumption))
          have HFI := hide (FIN.out v wT false hk HOT.out HBT.out)
          clear FIN HK HF hk hs hp
          go_wp2_with fail
          exact ⟨HFI.out, by simp [intOf] <;> omega⟩
    · obtain rfl : m = 625 := by omega
      obtain ⟨e1, e2⟩ := tnL_all
      rw [e1, e2] at HO
      clear e1 e2
      go_wp2_with fail
      go_ret
      exact ⟨_, rfl, HO.out, HB.out⟩
end Go.Proofs.YtkgkdhocmglklaaDoor
