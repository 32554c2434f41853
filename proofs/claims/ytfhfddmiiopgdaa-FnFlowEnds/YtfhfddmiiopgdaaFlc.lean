/- The program's FlowDo. -/
import Derived.Test.YtfhfddmiiopgdaaFlb
import Derived.Laws.AppendOwnNone
import Derived.Deep.RegionHeld3
namespace Go.Proofs.Ytfhfddmiiopgdaa
open Go.RowKit

theorem growCG (w : World) {ops : Array Oper} {rest : List Oper} {o : Oper} {a : Act} {Q : Exit → Act → World → Prop} (hgd : o.guard = none) (s x : Operand) (t e : TypeId) (sz by8 : Nat) (z : Value) (ti : TypeInfo)
    (ht : Try.prog.underlying t = some (.slice e)) (hi1 : Try.prog.info? e = some ti) (hi2 : ti.zero = some z) (hi3 : ti.size = sz) (hi4 : ti.bytes = by8) (hzs : z.cells.size = sz) (h0 : 0 < sz) (h8 : by8 ≤ 1000)
    (ho : o.op = .call { callee := .builtin .append, args := #[s, x], argTypes := #[t, t] }) (B : Nat) (v : Value) (n : Nat) (L : List Int) (hs : a.eval s = v) (w0 : World) (hown : w.ownsRow B e sz v n (ints L))
    (hb : Below B w0 w) (hB : B ≤ w.heap.size) (ad : Option Addr) (m c : Nat) (f : Nat → Int) (hx : a.eval x = .slice ad m c) (hnil : ad = none → m = 0 ∧ c = 0) (hpx : Px ad (m * sz) f w) (hn : n + m ≤ 100000)
    (h : ∀ v' w', w'.ownsRow B e sz v' (n + m) (ints (L ++ fl f (m * sz))) → Below B w0 w' → wpList Try.prog ops Q rest (a.put o.dst v') w') :
    wpList Try.prog ops Q (o :: rest) a w := by
  cases ad with
  | none =>
    obtain ⟨rfl, rfl⟩ := hnil rfl
    refine wpList_append_own_none hgd s x t ho B e ti sz ht hi1 v n (ints L) hs hown hx ?_
    refine h v w ?_ hb
    rw [Nat.zero_mul]
    simpa [fl] using hown
  | some ad =>
    refine wpList_append_own _ hgd s x t ho B e ti z sz by8 ht hi1 hi2 hi3 hi4 hzs h0 v n (ints L) hs hown ad m c (ints (fl f (m * sz))) hx (by rw [ints_length, fl_len]) ?_ (ints_one _) (by unfold maxLen; omega) (Nat.le_trans (Nat.mul_le_mul hn h8) (by omega)) hB ?_
    · intro j u hu
      have hj : j < m * sz := by
        have := (List.getElem?_eq_some_iff.1 hu).1
        rwa [ints_length, fl_len] at this
      rcases hpx with h0 | ⟨b, off, ha, hc⟩
      · omega
      · cases ha
        rw [show (⟨b, off, none⟩ : Addr).add j = ⟨b, off + j, none⟩ by unfold Addr.add; split <;> simp_all, hc j hj, ← hu, ints_at _ _ (by rw [fl_len]; exact hj), fl_at _ _ _ hj]
    · intro v' w' h1 h2 _
      have hr3 : ∀ q, Value.ownBlock v = some q → B ≤ q := fun q hq => (hown.lt q hq).1
      have hB3 : Below B w w' := (Below.refl _ _).grown h2 hB hr3
      refine h v' w' ?_ (hb.trans hB3)
      rw [ints_append]; exact h1

/-- orders of the call's own are answered -/
theorem ow_O {B m : Nat} {e : TypeId} {v : Value} {L : List Int} {wr : World} (h0 : wr.ownsRow B e 4 v m (ints L)) : ∃ a cp b, v = .slice a m cp ∧ Ow a b (m * 4) (gL L) wr ∧ (m * 4 = 0 ∨ B ≤ b) ∧ (a = none → m = 0 ∧ cp = 0) := by
  have hl : L.length = m * 4 := by have := h0.1; rw [ints_length] at this; omega
  have h := h0
  obtain ⟨hlen, hv | ⟨b, cp, cur, hv, hg, hcur, _, hm2, _, _⟩⟩ := h
  · exact ⟨none, 0, 0, by rw [hv.1, hv.2], .inl (by rw [hv.2]), .inl (by rw [hv.2]), fun _ => ⟨hv.2, rfl⟩⟩
  · subst hv
    refine ⟨_, cp, b, rfl, .inr ⟨rfl, fun k hk => ⟨?_, h0.frozenAt k⟩⟩, .inr hg, fun h => by cases h⟩
    rw [h0.cellAt k hk, ints_at _ _ (by omega)]; rfl
/-- a flow and a number are answered -/
def FlR (c : Int) (n : Nat) (f : Nat → Int) (code : Int) (w : World) (e : Ending) (w' : World) : Prop :=
  ∃ a cp b, e = .returned (.tuple #[vFlow c a n cp, .int .i64 code]) ∧ Ow a b (n * 4) f w' ∧ (n * 4 = 0 ∨ w.heap.size ≤ b) ∧ Below w.heap.size w w' ∧ (a = none → n = 0 ∧ cp = 0)

set_option maxHeartbeats 2000000 in
set_option maxRecDepth 100000 in
theorem cloneO_any (a : Option Addr) (n c : Nat) (f : Nat → Int) (hl : n ≤ 100000) (w : World) (h : Px a (n * 4) f w) :
    Calls Try.prog 23 #[.slice a n c] w fun e w' => ∃ v, e = .returned v ∧ w'.ownsRow w.heap.size 41 4 v n (ints (fl f (n * 4))) ∧ Below w.heap.size w w' := by
  obtain ⟨ti, hi1, hi2, hi3, hi4⟩ := infoO
  have q : ∀ (w : World) (a : Option Addr) (n c n' c' : Nat), (binOp .eql 26 (.slice a n c) (.slice none n' c')).run Try.prog w = .ok (.bool a.isNone) w := fun w a n c n' c' => Lib.run_eql_slice_nil w _ _ a n c n' c' Try.underlying26
  cases a with
  | none =>
    obtain rfl : n = 0 := by
      rcases h with h | ⟨b, off, ha, _⟩
      · omega
      · cases ha
    clear h
    go_enter Try.func23, Try.ntmps23
    go_wp2_with fail
    go_ret
    exact ⟨_, rfl, World.ownsRow_nil _ _ _ _, Below.refl _ _⟩
  | some ad =>
    have HP := hide (h.below (bnew w (.cells #[] 41)))
    clear h
    go_enter Try.func23, Try.ntmps23
    go_wp2_with (at_builtin; refine growCG _ rfl _ _ 26 41 4 32 (vOrder 0 0 0 0) ti Try.underlying26 hi1 hi2 hi3 hi4 rfl (by omega) (by omega) rfl w.heap.size _ 0 [] rfl w (World.ownsRow_made w #[] 0 (Nat.le_refl _) (Nat.zero_le _) rfl) (bnew _ _) (by simp) (some ad) n c f rfl (fun h => by cases h) HP.out (by omega) ?_)
    intro v' w1 hown hb
    have HO : Hid (w1.ownsRow w.heap.size 41 4 v' n (ints (fl f (n * 4)))) := by
      show World.ownsRow _ _ _ _ _ _ _
      simpa using hown
    have HB := hide hb
    clear hown hb
    go_wp2_with fail
    go_ret
    exact ⟨v', rfl, HO.out, HB.out⟩

end Go.Proofs.Ytfhfddmiiopgdaa
