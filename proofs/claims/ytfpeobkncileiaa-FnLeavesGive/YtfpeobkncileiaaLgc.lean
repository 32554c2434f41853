/- Whole lists that are appended, and lists that are the same. -/
import Derived.Test.YtfpeobkncileiaaDlr
import Derived.Laws.AppendOwnNone
namespace Go.Proofs.Ytfpeobkncileiaa
open Go.RowKit

theorem catI (w : World) {ops : Array Oper} {rest : List Oper} {o : Oper} {a : Act} {Q : Exit → Act → World → Prop} (hgd : o.guard = none) (s x : Operand)
    (ho : o.op = .call { callee := .builtin .append, args := #[s, x], argTypes := #[24, 24] }) (B : Nat) (v : Value) (n : Nat) (L : List Int) (hs : a.eval s = v) (w0 : World) (hown : w.ownsRow B 2 1 v n (ints L))
    (hb : Below B w0 w) (hB : B ≤ w.heap.size) (xv : Value) (B2 m : Nat) (M : List Int) (hx : a.eval x = xv) (hxo : w.ownsRow B2 2 1 xv m (ints M)) (hn : n + m ≤ 1048576)
    (h : ∀ v' w', w'.ownsRow B 2 1 v' (n + m) (ints (L ++ M)) → Below B w0 w' → wpList Try.prog ops Q rest (a.put o.dst v') w') :
    wpList Try.prog ops Q (o :: rest) a w := by
  obtain ⟨ti, hi1, hi2, hi3, hi4⟩ := info2
  have hxo' := hxo
  obtain ⟨hlen, hv | ⟨b, cap, cur, hv, hg, hcur, _, hm, _, _⟩⟩ := hxo'
  · obtain ⟨rfl, rfl⟩ := hv
    have hM : M = [] := List.eq_nil_of_length_eq_zero (by rw [ints_length] at hlen; omega)
    subst hM
    refine wpList_append_own_none hgd s x 24 ho B 2 ti 1 Try.underlying24 hi1 v n (ints L) hs hown hx ?_
    refine h v w ?_ hb
    rw [List.append_nil]; exact hown
  · subst hv
    have hM : M.length = m * 1 := by rw [ints_length] at hlen; exact hlen
    refine wpList_append_own _ hgd s x 24 ho B 2 ti (.int .i64 0) 1 8 Try.underlying24 hi1 hi2 hi3 hi4 rfl (by omega) v n (ints L) hs hown ⟨b, 0, none⟩ m cap (ints M) hx (by rw [ints_length]; exact hM) (fun j u hu => ?_) (fun u hu => by simp [ints] at hu; obtain ⟨x, _, rfl⟩ := hu; rfl) (by unfold maxLen; omega) (by omega) hB ?_
    · have hj : j < M.length := by
        have := (List.getElem?_eq_some_iff.1 hu).1
        rwa [ints_length] at this
      rw [show (⟨b, 0, none⟩ : Addr).add j = ⟨b, j, none⟩ by unfold Addr.add; split <;> simp_all, hxo.cellAt j (by omega)]
      exact hu
    · intro v' w' h1 h2 _
      have hr3 : ∀ q, Value.ownBlock v = some q → B ≤ q := fun q hq => (hown.lt q hq).1
      refine h v' w' ?_ (hb.trans ((Below.refl _ _).grown h2 hB hr3))
      rw [ints_append]; exact h1
theorem catF (w : World) {ops : Array Oper} {rest : List Oper} {o : Oper} {a : Act} {Q : Exit → Act → World → Prop} (hgd : o.guard = none) (s x : Operand)
    (ho : o.op = .call { callee := .builtin .append, args := #[s, x], argTypes := #[26, 26] }) (B : Nat) (v : Value) (n : Nat) (L : List Int) (hs : a.eval s = v) (w0 : World) (hown : w.ownsRow B 42 3 v n (ints L))
    (hb : Below B w0 w) (hB : B ≤ w.heap.size) (xv : Value) (B2 m : Nat) (M : List Int) (hx : a.eval x = xv) (hxo : w.ownsRow B2 42 3 xv m (ints M)) (hn : n + m ≤ 1048576)
    (h : ∀ v' w', w'.ownsRow B 42 3 v' (n + m) (ints (L ++ M)) → Below B w0 w' → wpList Try.prog ops Q rest (a.put o.dst v') w') :
    wpList Try.prog ops Q (o :: rest) a w := by
  obtain ⟨ti, hi1, hi2, hi3, hi4⟩ := infoL
  have hxo' := hxo
  obtain ⟨hlen, hv | ⟨b, cap, cur, hv, hg, hcur, _, hm, _, _⟩⟩ := hxo'
  · obtain ⟨rfl, rfl⟩ := hv
    have hM : M = [] := List.eq_nil_of_length_eq_zero (by rw [ints_length] at hlen; omega)
    subst hM
    refine wpList_append_own_none hgd s x 26 ho B 42 ti 3 Try.underlying26 hi1 v n (ints L) hs hown hx ?_
    refine h v w ?_ hb
    rw [List.append_nil]; exact hown
  · subst hv
    have hM : M.length = m * 3 := by rw [ints_length] at hlen; exact hlen
    refine wpList_append_own _ hgd s x 26 ho B 42 ti (vLeaf 0 0 0) 3 24 Try.underlying26 hi1 hi2 hi3 hi4 rfl (by omega) v n (ints L) hs hown ⟨b, 0, none⟩ m cap (ints M) hx (by rw [ints_length]; exact hM) (fun j u hu => ?_) (fun u hu => by simp [ints] at hu; obtain ⟨x, _, rfl⟩ := hu; rfl) (by unfold maxLen; omega) (by omega) hB ?_
    · have hj : j < M.length := by
        have := (List.getElem?_eq_some_iff.1 hu).1
        rwa [ints_length] at this
      rw [show (⟨b, 0, none⟩ : Addr).add j = ⟨b, j, none⟩ by unfold Addr.add; split <;> simp_all, hxo.cellAt j (by omega)]
      exact hu
    · intro v' w' h1 h2 _
      have hr3 : ∀ q, Value.ownBlock v = some q → B ≤ q := fun q hq => (hown.lt q hq).1
      refine h v' w' ?_ (hb.trans ((Below.refl _ _).grown h2 hB hr3))
      rw [ints_append]; exact h1
theorem own_pxF {w : World} {B n : Nat} {a : Option Addr} {c : Nat} {L : List Int} (h : w.ownsRow B 42 3 (.slice a n c) n (ints L)) : Px a (n * 3) (fun k => L.getD k 0) w := by
  by_cases h0 : 0 < n
  · obtain ⟨b, c', hv, -, hc⟩ := own_partsF h h0
    cases hv
    exact .inr ⟨b, 0, rfl, fun k hk => by rw [Nat.zero_add]; exact (hc k hk).1⟩
  · exact .inl (by omega)

/-- are the first n numbers the same -/
def eqF (f g : Nat → Int) (n : Nat) : Bool := allG (fun k => decide (f k = g k)) n
theorem allG_of {p : Nat → Bool} : ∀ {n : Nat}, (∀ k, k < n → p k = true) → allG p n = true
  | 0, _ => rfl
  | n + 1, h => by
    simp only [allG, Bool.and_eq_true]
    exact ⟨allG_of fun k hk => h k (by omega), h n (by omega)⟩
theorem eqF_true {f g : Nat → Int} {n : Nat} (h : ∀ k, k < n → f k = g k) : eqF f g n = true := allG_of fun k hk => by simp [h k hk]
theorem eqF_false {f g : Nat → Int} {n k : Nat} (hk : k < n) (h : f k ≠ g k) : eqF f g n = false := by
  cases hq : eqF f g n
  · rfl
  · have := allG_at hq k hk
    simp [h] at this

theorem sameIntsB_any (a a' : Option Addr) (len cap cap' : Nat) (f g : Nat → Int) (hl : len ≤ 1048576) (w : World) (h : Px a len f w) (h' : Px a' len g w) :
    Calls Try.prog 7 #[.slice a len cap, .slice a' len cap'] w fun e w' => e = .returned (.bool (eqF f g len)) ∧ ∃ n, w' = w.drewN n := by
  have HP := hide h
  have HP' := hide h'
  clear h h'
  have q0 : (((len : Nat) : Int) != (len : Int)) = false := by simp
  go_enter Try.func7, Try.ntmps7
  go_wp2
  go_loopw [5] (fun i wr => ∃ k n : Nat, k ≤ len ∧ i = .int .i64 k ∧ (∀ j, j < k → f j = g j) ∧ wr = w.drewN n) (fun i _ => len - (intOf i).toNat)
  case atStart => exact ⟨0, 0, by omega, rfl, fun j hj => by omega, rfl⟩
  case round =>
    obtain ⟨k, n, hk, rfl, hall, rfl⟩ := hrel
    have HA := hide hall
    clear hall
    by_cases hlt : k < len
    · obtain ⟨b, off, rfl, hz⟩ := HP.out.at hlt
      obtain ⟨b', off', rfl, hz'⟩ := HP'.out.at hlt
      clear HP HP'
      by_cases e : f k = g k
      · have hq : (f k != g k) = false := by simp [e]
        have HA' : Hid (∀ j, j < k + 1 → f j = g j) := fun j hj => by
          by_cases e' : j = k
          · rw [e']; exact e
          · exact HA.out j (by omega)
        clear e HA
        generalize f k = x at *
        generalize g k = y at *
        go_wp2
        go_quiet (fail)
        go_wp2
        go_roundw
        case rel => exact ⟨k + 1, _, by omega, by go_num, HA'.out, rfl⟩
        case measure => simp [intOf]; omega
      · have hq : (f k != g k) = true := by simp [e]
        have HF := hide (eqF_false hlt e)
        clear e HA
        generalize f k = x at *
        generalize g k = y at *
        go_wp2
        go_quiet (fail)
        go_wp2
        go_ret
        exact ⟨by rw [HF.out]; rfl, n + nq, by simp [World.drewN, Nat.add_assoc]⟩
    · obtain rfl : k = len := by omega
      have HT := hide (eqF_true HA.out)
      go_wp2
      go_ret
      exact ⟨by rw [HT.out]; rfl, _, rfl⟩

end Go.Proofs.Ytfpeobkncileiaa
