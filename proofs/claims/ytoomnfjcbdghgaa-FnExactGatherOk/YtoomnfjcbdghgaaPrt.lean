/- Lists of parts that a call makes by append. -/
import Derived.Test.YtoomnfjcbdghgaaSpa
import Derived.Lib.MinMax
namespace Go.Proofs.Ytoomnfjcbdghgaa
open Go.RowKit

/-- the first cells as a list -/
def vls (F : Nat → Value) : Nat → List Value
  | 0 => []
  | n + 1 => vls F n ++ [F n]
theorem vls_len (F : Nat → Value) : ∀ n, (vls F n).length = n
  | 0 => rfl
  | n + 1 => by simp [vls, vls_len F n]
theorem vls_at (F : Nat → Value) : ∀ n k, k < n → (vls F n)[k]? = some (F k)
  | 0, k, h => by omega
  | n + 1, k, h => by
    by_cases e : k < n
    · rw [vls, List.getElem?_append_left (by rw [vls_len]; exact e), vls_at F n k e]
    · obtain rfl : k = n := by omega
      rw [vls, List.getElem?_append_right (by rw [vls_len]; omega), vls_len]
      simp
theorem vls_congr {F G : Nat → Value} : ∀ {n}, (∀ k, k < n → F k = G k) → vls F n = vls G n
  | 0, _ => rfl
  | n + 1, h => by simp only [vls]; rw [vls_congr (fun k hk => h k (by omega)), h n (by omega)]

/-- an own list of structs -/
theorem ow_vls {w : World} {B n m : Nat} {e : TypeId} {v : Value} {F : Nat → Value} (h : w.ownsRow B e m v n (vls F (n * m))) : ∃ a cap b, v = .slice a n cap ∧ OwV a b (n * m) F w ∧ (n * m = 0 ∨ B ≤ b) ∧ n ≤ cap := by
  have h' := h
  obtain ⟨hlen, hv | ⟨b, cap, cur, hv, hg, hcur, _, hm, _, _⟩⟩ := h'
  · obtain ⟨rfl, rfl⟩ := hv
    exact ⟨none, 0, B, rfl, .inl (by simp), .inl (by simp), Nat.le_refl _⟩
  · subst hv
    refine ⟨some ⟨b, 0, none⟩, cap, b, rfl, .inr ⟨rfl, fun k hk => ⟨?_, h.frozenAt k⟩⟩, .inr hg, by assumption⟩
    rw [h.cellAt k hk]
    exact vls_at F _ k hk

set_option maxRecDepth 100000 in
theorem infoP : ∃ i, Try.prog.info? 36 = some i ∧ i.zero = some (vPart 0 0 false ⟨#[]⟩) ∧ i.size = 4 ∧ i.bytes = 40 := ⟨_, rfl, rfl, rfl, rfl⟩

/-- a part is appended to a list of the call's own -/
theorem growP (w : World) {ops : Array Oper} {rest : List Oper} {o : Oper} {a : Act} {Q : Exit → Act → World → Prop} (hgd : o.guard = none) (s x : Operand)
    (ho : o.op = .call { callee := .builtin .append, args := #[s, x], argTypes := #[32, 32] }) (B : Nat) (v : Value) (n : Nat) (E : Nat → SPart) (hs : a.eval s = v) (w0 : World) (hown : w.ownsRow B 36 4 v n (vls (FPart E) (n * 4)))
    (hb : Below B w0 w) (hB : B ≤ w.heap.size) (x0 x1 : Int) (x2 : Bool) (x3 : ByteArray) (hE : E n = ⟨x0, x1, x2, x3⟩) (hx : a.eval x = .slice (some ⟨w.heap.size, 0, none⟩) 1 1) (hn : n ≤ 1048576)
    (h : ∀ v' w', w'.ownsRow B 36 4 v' (n + 1) (vls (FPart E) ((n + 1) * 4)) → Below B w0 w' → w.heap.size < w'.heap.size → wpList Try.prog ops Q rest (a.put o.dst v') w') :
    wpList Try.prog ops Q (o :: rest) a (w.alloc (.cells #[.int .i64 x0, .int .i64 x1, .bool x2, .string x3] 36)) := by
  obtain ⟨ti, hi1, hi2, hi3, hi4⟩ := infoP
  have hsw : w.heap.size < (w.alloc (.cells [Value.int .i64 x0, .int .i64 x1, .bool x2, .string x3].toArray 36)).heap.size := by simp
  refine wpList_append_own _ hgd s x 32 ho B 36 ti (vPart 0 0 false ⟨#[]⟩) 4 40 Try.underlying32 hi1 hi2 hi3 hi4 rfl (by omega) v n _ hs (hown.alloc _) ⟨w.heap.size, 0, none⟩ 1 1 [Value.int .i64 x0, .int .i64 x1, .bool x2, .string x3] hx rfl (new_cells w [Value.int .i64 x0, .int .i64 x1, .bool x2, .string x3] 36) (fun u hu => by
    simp only [List.mem_cons, List.not_mem_nil, or_false] at hu
    rcases hu with rfl | rfl | rfl | rfl <;> rfl) (by unfold maxLen; omega) (by omega) (Nat.le_trans hB (Nat.le_of_lt hsw)) ?_
  intro v' w' h1 h2 _
  have hr3 : ∀ q, Value.ownBlock v = some q → B ≤ q := fun q hq => (hown.lt q hq).1
  have hB3 : Below B (w.alloc (.cells [Value.int .i64 x0, .int .i64 x1, .bool x2, .string x3].toArray 36)) w' := (Below.refl _ _).grown h2 (Nat.le_trans hB (Nat.le_of_lt hsw)) hr3
  refine h v' w' ?_ ((hb.alloc hB _).trans hB3) (Nat.lt_of_lt_of_le hsw hB3.size)
  have e : vls (FPart E) ((n + 1) * 4) = vls (FPart E) (n * 4) ++ [Value.int .i64 x0, .int .i64 x1, .bool x2, .string x3] := by
    rw [show (n + 1) * 4 = n * 4 + 1 + 1 + 1 + 1 by omega]
    simp only [vls]
    have e0 := FPart_0 E n
    have e1 := FPart_1 E n
    have e2 := FPart_2 E n
    have e3 := FPart_3 E n
    rw [hE] at e0 e1 e2 e3
    rw [show n * 4 + 1 + 1 = n * 4 + 2 by omega, show n * 4 + 2 + 1 = n * 4 + 3 by omega, e0, e1, e2, e3]
    simp
  rw [e]
  exact h1

/-- a list of parts is answered -/
def PtR (n : Nat) (E : Nat → SPart) (w : World) (e : Ending) (w' : World) : Prop :=
  ∃ a cap b, e = .returned (.slice a n cap) ∧ OwV a b (n * 4) (FPart E) w' ∧ (n * 4 = 0 ∨ w.heap.size ≤ b) ∧ Below w.heap.size w w'
theorem PtR.ofOwn {n : Nat} {E : Nat → SPart} {w w' : World} {v : Value} (ho : w'.ownsRow w.heap.size 36 4 v n (vls (FPart E) (n * 4))) (hb : Below w.heap.size w w') : PtR n E w (.returned v) w' := by
  obtain ⟨a, cap, b, rfl, h1, h2, _⟩ := ow_vls ho
  exact ⟨a, cap, b, rfl, h1, h2, hb⟩
theorem PtR.nil {E : Nat → SPart} {w w' : World} (a : Option Addr) (cap : Nat) (hb : Below w.heap.size w w') : PtR 0 E w (.returned (.slice a 0 cap)) w' := ⟨a, cap, 0, rfl, .inl rfl, .inl rfl, hb⟩

set_option maxRecDepth 100000 in
theorem make_capP (n : Nat) (h : n ≤ 1048576) (w : World) :
    ∃ cur : Array Value, cur.size = n * 4 ∧ (Instr.makeSlice 32 (.int .i64 0) (.int .i64 n)).run Try.prog w = .ok (.slice (some ⟨w.heap.size, 0, none⟩) 0 n) (w.alloc (.cells cur 36)) := by
  have := run_make (P := Try.prog) w 32 36 _ (vPart 0 0 false ⟨#[]⟩) Try.underlying32 rfl rfl .i64 .i64 0 n (by omega) (by omega) (by show (40 : Int) * _ ≤ _; omega) (by omega)
  refine ⟨_, ?_, this⟩
  show (madeCells _ ((n : Int).toNat * 4)).size = _
  rw [Int.toNat_natCast]
  simp [madeCells]

end Go.Proofs.Ytoomnfjcbdghgaa
