/- A list that lies is appended, at a step of a region that draws. -/
import Derived.Test.YtfhfddmiiopgdaaFld
import Derived.Deep.AppendLies
import Derived.Laws.AppendOwnNone
import Derived.Deep.RegionLaw
namespace Go.Proofs.Ytfhfddmiiopgdaa
open Go.RowKit

theorem runCG (w : World) (t e : TypeId) (sz by8 : Nat) (z : Value) (ti : TypeInfo) (ty : TypeId)
    (ht : Try.prog.underlying t = some (.slice e)) (hi1 : Try.prog.info? e = some ti) (hi2 : ti.zero = some z) (hi3 : ti.size = sz) (hi4 : ti.bytes = by8) (hzs : z.cells.size = sz) (h0 : 0 < sz) (h8 : by8 ≤ 1000)
    (B : Nat) (v : Value) (n : Nat) (L : List Int) (hown : w.ownsRow B e sz v n (ints L))
    (hB : B ≤ w.heap.size) (ad : Option Addr) (m c : Nat) (f : Nat → Int) (hnil : ad = none → m = 0 ∧ c = 0) (hpx : Px ad (m * sz) f w) (hn : n + m ≤ 100000) :
    ∃ v' w', (Builtin.append_ #[t, t] ty #[v, .slice ad m c]).run Try.prog w = .ok v' w' ∧ w'.ownsRow B e sz v' (n + m) (ints (L ++ fl f (m * sz))) ∧ w.grownBy w' v.ownBlock ∧ (v'.ownBlock = v.ownBlock ∨ v'.ownBlock = some w.heap.size) := by
  cases ad with
  | none =>
    obtain ⟨rfl, rfl⟩ := hnil rfl
    refine ⟨v, w, run_append_owned_none (P := Try.prog) (w := w) B t ty e ti sz ht hi1 v n (ints L) hown, ?_, ⟨rfl, rfl, rfl, Nat.le_refl _, fun _ _ _ => rfl⟩, .inl rfl⟩
    rw [Nat.zero_mul]
    simpa [fl] using hown
  | some ad =>
    obtain ⟨v', w', hr, h2, h3, _, h5⟩ := run_append_own_at (P := Try.prog) w B t ty e ti z sz by8 ht hi1 hi2 hi3 hi4 hzs h0 v n (ints L) hown ad m c (ints (fl f (m * sz))) (by rw [ints_length, fl_len]) (by
      intro j u hu
      have hj : j < m * sz := by
        have := (List.getElem?_eq_some_iff.1 hu).1
        rwa [ints_length, fl_len] at this
      rcases hpx with h0 | ⟨b, off, ha, hc⟩
      · omega
      · cases ha
        rw [show (⟨b, off, none⟩ : Addr).add j = ⟨b, off + j, none⟩ by unfold Addr.add; split <;> simp_all, hc j hj, ← hu, ints_at _ _ (by rw [fl_len]; exact hj), fl_at _ _ _ hj]) (ints_one _) (by unfold maxLen; omega) (Nat.le_trans (Nat.mul_le_mul hn h8) (by omega)) hB
    exact ⟨v', w', hr, by rw [ints_append]; exact h2, h3, h5⟩

theorem stepCG (w : World) {ops : Array Oper} {o : Oper} {a : Act} {K : Act → World → Prop} {Q : Exit → Act → World → Prop} {E : Prop} (hgd : o.guard = none) (s x : Operand) (t e : TypeId) (sz by8 : Nat) (z : Value) (ti : TypeInfo)
    (ht : Try.prog.underlying t = some (.slice e)) (hi1 : Try.prog.info? e = some ti) (hi2 : ti.zero = some z) (hi3 : ti.size = sz) (hi4 : ti.bytes = by8) (hzs : z.cells.size = sz) (h0 : 0 < sz) (h8 : by8 ≤ 1000)
    (ho : o.op = .call { callee := .builtin .append, args := #[s, x], argTypes := #[t, t] }) (B : Nat) (v : Value) (n : Nat) (L : List Int) (hs : a.eval s = v) (hown : w.ownsRow B e sz v n (ints L))
    (hB : B ≤ w.heap.size) (ad : Option Addr) (m c : Nat) (f : Nat → Int) (hx : a.eval x = .slice ad m c) (hnil : ad = none → m = 0 ∧ c = 0) (hpx : Px ad (m * sz) f w) (hn : n + m ≤ 100000)
    (h : ∀ v' w', w'.ownsRow B e sz v' (n + m) (ints (L ++ fl f (m * sz))) → w.grownBy w' v.ownBlock → (v'.ownBlock = v.ownBlock ∨ v'.ownBlock = some w.heap.size) → K (a.put o.dst v') w') :
    if Region.wanted o (yielded ops a.tmps) = true then Oper.wp Try.prog o a w K Q else E := by
  have hw : Region.wanted o (yielded ops a.tmps) = true := by simp [Region.wanted, hgd]
  rw [if_pos hw]
  obtain ⟨v', w', hr, h2, h3, h4⟩ := runCG w t e sz by8 z ti o.type ht hi1 hi2 hi3 hi4 hzs h0 h8 B v n L hown hB ad m c f hnil hpx hn
  unfold Oper.wp execOp
  simp only [ho, resolve, invoke, builtin, Sem.run_bind, Sem.run_pure, Result.andThen_ok, List.map_toArray, List.map_cons, List.map_nil, hs, hx, hr]
  exact h v' w' h2 h3 h4

end Go.Proofs.Ytfhfddmiiopgdaa
