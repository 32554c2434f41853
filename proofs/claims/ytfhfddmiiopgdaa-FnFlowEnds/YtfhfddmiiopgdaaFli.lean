/- slices.Insert of one order into a list of the call's own. -/
import Derived.Test.YtfhfddmiiopgdaaFlr
import Derived.Laws.IdiomCopy
import Derived.Laws.AppendOwnNone
import Derived.Lib.Overlaps
import Derived.Deep.AppendLies
namespace Go.Proofs.Ytfhfddmiiopgdaa
open Go.RowKit

set_option maxRecDepth 100000 in
theorem infoO : ∃ i, Try.prog.info? 41 = some i ∧ i.zero = some (vOrder 0 0 0 0) ∧ i.size = 4 ∧ i.bytes = 32 := ⟨_, rfl, rfl, rfl, rfl⟩

/-- copy over elements of sz cells -/
theorem run_copyG {P : Program} (w : World) (dT sT ty elem : TypeId) (b o dLen dCap : Nat) (a : Addr) (sLen sCap sz : Nat) (cs : List Value)
    (hu : P.underlying dT = some (.slice elem)) (hs : (P.info? elem).map (·.size) = some sz) (hn : cs.length = Nat.min sLen dLen * sz)
    (hsrc : ∀ j v, cs[j]? = some v → w.cell? (a.add j) = some v) (hc : ∀ j, j < cs.length → (w.cell? ⟨b, o + j, none⟩).isSome = true) (hf : ∀ j, j < cs.length → w.frozen? ⟨b, o + j, none⟩ = false) (h1 : ∀ v ∈ cs, v.oneCell' = true) :
    (Builtin.copy_ #[dT, sT] ty #[.slice (some ⟨b, o, none⟩) dLen dCap, .slice (some a) sLen sCap]).run P w = .ok (goInt (Nat.min sLen dLen)) (w.setCells b o cs) := by
  have hl := run_loadCells_list (P := P) w a cs hsrc
  have hst := run_storeCells_cells (P := P) b o cs 0 w (by simpa using hc) (by simpa using hf) h1
  cases hq : P.info? elem with
  | none => simp [hq] at hs
  | some i =>
    have hi : i.size = sz := by simpa [hq] using hs
    simp [Builtin.copy_, run_underlying hu, Builtin.lenOf, Builtin.firstCells, sizeOf, typeInfo, hq, hi, ← hn, hl, hst]

set_option maxRecDepth 100000 in
set_option maxHeartbeats 4000000 in
theorem insertEnd_any (B : Nat) (v : Value) (n : Nat) (L : List Int) (X : Nat) (x0 x1 x2 x3 : Int) (hn : n ≤ 1000) (w : World) (ho : w.ownsRow B 41 4 v n (ints L)) (hB : B ≤ w.heap.size)
    (hx : BOrder X x0 x1 x2 x3 w) :
    Calls Try.prog 35 #[v, .int .i64 n, .slice (some ⟨X, 0, none⟩) 1 1] w fun e w' => ∃ g cp, e = .returned (.slice (some ⟨g, 0, none⟩) (n + 1) cp) ∧ w'.ownsRow B 41 4 (.slice (some ⟨g, 0, none⟩) (n + 1) cp) (n + 1) (ints (L ++ [x0, x1, x2, x3])) ∧ w.grownBy w' v.ownBlock ∧ (v.ownBlock = some g ∨ w.heap.size ≤ g) := by
  obtain ⟨ti, hi1, hi2, hi3, hi4⟩ := infoO
  obtain ⟨ad, cp, rfl, hnil, -⟩ := own_pxO ho
  have hcp : n ≤ cp := by
    obtain ⟨_, hv | ⟨b1, c1, cur, hv, _, _, hn1, _⟩⟩ := ho
    · have := hv.2; omega
    · cases hv; exact hn1
  have hnews : ∀ j u, (ints [x0, x1, x2, x3])[j]? = some u → w.cell? ((⟨X, 0, none⟩ : Addr).add j) = some u := by
    obtain ⟨h0, h1, h2, h3⟩ := hx
    intro j u hj
    rw [show (⟨X, 0, none⟩ : Addr).add j = ⟨X, j, none⟩ by unfold Addr.add; split <;> simp_all]
    have hj4 : j < 4 := by have := (List.getElem?_eq_some_iff.1 hj).1; simpa [ints] using this
    have : j = 0 ∨ j = 1 ∨ j = 2 ∨ j = 3 := by omega
    rcases this with rfl | rfl | rfl | rfl <;> simp [ints] at hj <;> subst hj <;> assumption
  have HO := hide ho
  have HNW := hide hnews
  clear ho hx hnews
  go_enter Try.func35, Try.ntmps35
  go_wp2_with (at_builtin; refine wpList_append_lies _ rfl _ _ 26 rfl B 41 ti (vOrder 0 0 0 0) 4 32 Try.underlying26 hi1 hi2 hi3 hi4 rfl (by omega) _ n (ints L) rfl HO.out ⟨X, 0, none⟩ 1 1 (ints [x0, x1, x2, x3]) rfl rfl HNW.out (ints_one _) (by omega) (by unfold maxLen; omega) (by omega) hB w.heap.size rfl ?_)
  all_goals
    intro g cp' w' h1 h2 h3 _
    have HO' : Hid (w'.ownsRow B 41 4 (.slice (some ⟨g, 0, none⟩) (n + 1) cp') (n + 1) (ints (L ++ [x0, x1, x2, x3]))) := by show World.ownsRow _ _ _ _ _ _ _; rw [ints_append]; exact h1
    have HB' : Hid (w.grownBy w' (Value.slice ad n cp).ownBlock) := by show World.grownBy _ _ _; cases ad <;> exact h2
    have HG : Hid ((Value.slice ad n cp).ownBlock = some g ∨ w.heap.size ≤ g) := by
      show _ ∨ _
      rcases h3 with h | h
      · left; cases ad <;> exact h
      · right; omega
    clear h1 h2 h3 HO HNW
    go_wp2_with fail
    go_ret
    exact ⟨g, cp', rfl, HO'.out, HB'.out, HG.out⟩

/-- a row of the call's own, some cells of which are written -/
theorem own_setV {w : World} {B n b cap m : Nat} {e : TypeId} {xs : List Value} (h : w.ownsRow B e m (.slice (some ⟨b, 0, none⟩) n cap) n xs) (k : Nat) (z : Value) :
    (w.setCell ⟨b, k, none⟩ z).ownsRow B e m (.slice (some ⟨b, 0, none⟩) n cap) n (xs.set k z) := by
  obtain ⟨h1, h2⟩ := h
  refine ⟨by rw [List.length_set]; exact h1, ?_⟩
  rcases h2 with ⟨hv, _⟩ | ⟨b', cap', cur, hv, hB, hh, hn, hc, hs, ht⟩
  · cases hv
  · cases hv
    refine .inr ⟨b, cap, cur.setIfInBounds k z, rfl, hB, ?_, hn, hc, by rw [Array.size_setIfInBounds]; exact hs, ?_⟩
    · rw [heap_setCell_same w b k cur e _ hh]
    · rw [Array.toList_setIfInBounds, List.take_set, ht]
/-- values written over a list from a place on -/
def putL (xs : List Value) (o : Nat) : List Value → List Value
  | [] => xs
  | v :: vs => putL (xs.set o v) (o + 1) vs
theorem own_setCells {B n b cap m : Nat} {e : TypeId} : ∀ (vs : List Value) {w : World} {xs : List Value} (o : Nat), w.ownsRow B e m (.slice (some ⟨b, 0, none⟩) n cap) n xs →
    (w.setCells b o vs).ownsRow B e m (.slice (some ⟨b, 0, none⟩) n cap) n (putL xs o vs)
  | [], _, _, _, h => h
  | v :: vs, _, _, o, h => own_setCells vs (o + 1) (own_setV h o v)
theorem putL_eq : ∀ (vs xs : List Value) (o : Nat), o + vs.length ≤ xs.length → putL xs o vs = xs.take o ++ vs ++ xs.drop (o + vs.length)
  | [], xs, o, _ => by simp [putL]
  | v :: vs, xs, o, h => by
    simp only [List.length_cons] at h
    rw [putL, putL_eq vs (xs.set o v) (o + 1) (by rw [List.length_set]; omega)]
    have e0 : xs.set o v = xs.take o ++ v :: xs.drop (o + 1) := by rw [List.set_eq_take_append_cons_drop, if_pos (by omega)]
    have hlo : (xs.take o).length = o := by rw [List.length_take]; omega
    have e1 : (xs.set o v).take (o + 1) = xs.take o ++ [v] := by
      rw [e0, List.take_append, hlo, List.take_of_length_le (by omega), Nat.add_sub_cancel_left]
      rfl
    have e2 : (xs.set o v).drop (o + 1 + vs.length) = xs.drop (o + (v :: vs).length) := by
      rw [List.drop_set_of_lt (by omega)]
      simp only [List.length_cons]
      congr 1; omega
    rw [e1, e2]
    simp
/-- a row of the call's own, one element longer, where there is room -/
theorem own_more {w : World} {B n b cap m : Nat} {e : TypeId} {xs : List Value} (h : w.ownsRow B e m (.slice (some ⟨b, 0, none⟩) n cap) n xs) (hr : n + 1 ≤ cap) :
    ∃ sp : List Value, sp.length = m ∧ w.ownsRow B e m (.slice (some ⟨b, 0, none⟩) (n + 1) cap) (n + 1) (xs ++ sp) := by
  obtain ⟨h1, h2⟩ := h
  rcases h2 with ⟨hv, _⟩ | ⟨b', cap', cur, hv, hB, hh, hn, hc, hs, ht⟩
  · cases hv
  · cases hv
    have hsz : (n + 1) * m ≤ cur.toList.length := by rw [Array.length_toList, hs]; exact Nat.mul_le_mul_right _ hr
    refine ⟨(cur.toList.drop (n * m)).take m, ?_, ?_, .inr ⟨b, cap, cur, rfl, hB, hh, hr, hc, hs, ?_⟩⟩
    · rw [List.length_take, List.length_drop]; rw [Nat.succ_mul] at hsz; omega
    · rw [List.length_append, h1, List.length_take, List.length_drop]; rw [Nat.succ_mul] at hsz ⊢; omega
    · rw [Nat.succ_mul, List.take_add, ht]

end Go.Proofs.Ytfhfddmiiopgdaa
