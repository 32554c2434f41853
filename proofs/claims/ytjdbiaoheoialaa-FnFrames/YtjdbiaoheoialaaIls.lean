/- Lists of numbers: the law's own copies, comparisons and marks. -/
import Derived.Test.YtjdbiaoheoialaaGro
import Derived.Test.YtjdbiaoheoialaaHol
namespace Go.Proofs.Ytjdbiaoheoialaa
open Go.RowKit

theorem Px.kept {a : Option Addr} {len p : Nat} {f : Nat → Int} {w w' : World} (h : Px a len f w) (hk : Kept p w w') (hp : ∀ b off, a = some ⟨b, off, none⟩ → b ≠ p) : Px a len f w' := by
  rcases h with h | ⟨b, off, ha, h⟩
  · exact .inl h
  · exact .inr ⟨b, off, ha, fun k hk' => hk.cell (hp b off ha) (h k hk')⟩

theorem Part.drew {b len k : Nat} {f : Nat → Int} {w : World} (h : Part b len k f w) : Part b len k f w.drew := h

theorem Px.at {a : Option Addr} {len k : Nat} {f : Nat → Int} {w : World} (h : Px a len f w) (hk : k < len) :
    ∃ b off, a = some ⟨b, off, none⟩ ∧ w.cell? ⟨b, off + k, none⟩ = some (.int .i64 (f k)) := by
  rcases h with h | ⟨b, off, ha, h⟩
  · omega
  · exact ⟨b, off, ha, h k hk⟩

theorem Px.lt {a : Option Addr} {len : Nat} {f : Nat → Int} {w : World} (h : Px a len f w) (h0 : 0 < len) : ∃ b off, a = some ⟨b, off, none⟩ ∧ b < w.heap.size := by
  obtain ⟨b, off, ha, hc⟩ := h.at h0
  exact ⟨b, off, ha, World.block_lt_of_cell? w _ hc⟩

theorem Px.drew {a : Option Addr} {len : Nat} {f : Nat → Int} {w : World} (h : Px a len f w) : Px a len f w.drew := h

theorem Row.set {b len : Nat} {f : Nat → Int} {w : World} (h : Row b len f w) {p : Addr} (hp : p.block ≠ b) (v : Value) : Row b len f (w.setCell p v) := fun k hk => by
  refine ⟨?_, by simpa using (h k hk).2⟩
  rw [World.cell?_setCell_other _ _ _ _ (by intro e; subst e; exact hp rfl)]
  exact (h k hk).1

theorem Below.next {B : Nat} {W w1 w2 : World} (h : Below B W w1) (hB : B ≤ W.heap.size) (h2 : Below w1.heap.size w1 w2) : Below B W w2 :=
  h.trans (h2.mono (Nat.le_trans hB h.size))

set_option maxRecDepth 100000 in
theorem make_px (n : Nat) (h : n ≤ 1048576) (w : World) :
    (Instr.makeSlice 24 (.int .i64 n) (.int .i64 n)).run Try.prog w = .ok (.slice (some ⟨w.heap.size, 0, none⟩) n n) (w.alloc (.cells (madeCells #[.int .i64 0] n) 2)) := by
  have := run_make (P := Try.prog) w 24 2 _ (.int .i64 0) Try.underlying24 rfl rfl .i64 .i64 n n (by omega) (by omega) (by show (8 : Int) * _ ≤ _; omega) (by omega)
  rw [this]
  show Result.ok (Value.slice _ (n : Int).toNat (n : Int).toNat) (w.alloc (.cells (madeCells (Value.cells (.int .i64 0)) ((n : Int).toNat * 1)) 2)) = _
  rw [Int.toNat_natCast, Nat.mul_one]
  rfl

theorem madeCells_at (n k : Nat) (h : k < n) : (madeCells #[Value.int .i64 0] n)[k]? = some (.int .i64 0) := by
  rw [← Array.getElem?_toList, toList_madeCells_one, List.getElem?_replicate, if_pos h]

/-- a row that was just made -/
theorem row_new (n : Nat) (w : World) : Row w.heap.size n (fun _ => 0) (w.alloc (.cells (madeCells #[.int .i64 0] n) 2)) := by
  intro k hk
  have := madeCells_at n k hk
  constructor
  · simp [go_sem, this]
  · simp [go_sem]

theorem l1In_any (x lo hi : Int) (w : World) :
    Calls Try.prog 32 #[.int .i64 x, .int .i64 lo, .int .i64 hi] w fun e w' => e = .returned (.bool (inB x lo hi)) ∧ w' = w := by
  by_cases h : lo ≤ x
  · have h' : decide (lo ≤ x) = true := decide_eq_true h
    go_enter Try.func32, Try.ntmps32
    go_wp2
    go_ret
    refine ⟨?_, rfl⟩
    simp [inB, h]
  · go_enter Try.func32, Try.ntmps32
    go_wp2
    go_ret
    refine ⟨?_, rfl⟩
    simp [inB]
    omega

theorem within_any (x lo hi : Int) (w : World) :
    Calls Try.prog 44 #[.int .i64 x, .int .i64 lo, .int .i64 hi] w fun e w' => e = .returned (.bool (inB x lo hi)) ∧ w' = w := by
  by_cases h : lo ≤ x
  · go_enter Try.func44, Try.ntmps44
    go_wp2
    go_ret
    refine ⟨?_, rfl⟩
    simp [inB, h]
  · go_enter Try.func44, Try.ntmps44
    go_wp2
    go_ret
    refine ⟨?_, rfl⟩
    simp [inB]
    omega

set_option maxRecDepth 100000 in
theorem info2 : ∃ i, Try.prog.info? 2 = some i ∧ i.zero = some (.int .i64 0) ∧ i.size = 1 ∧ i.bytes = 8 := ⟨_, rfl, rfl, rfl, rfl⟩

set_option maxRecDepth 100000 in
/-- room for n numbers -/
theorem make_cap (n : Nat) (h : n ≤ 1048576) (w : World) :
    ∃ cur : Array Value, cur.size = n * 1 ∧ (Instr.makeSlice 24 (.int .i64 0) (.int .i64 n)).run Try.prog w = .ok (.slice (some ⟨w.heap.size, 0, none⟩) 0 n) (w.alloc (.cells cur 2)) := by
  have := run_make (P := Try.prog) w 24 2 _ (.int .i64 0) Try.underlying24 rfl rfl .i64 .i64 0 n (by omega) (by omega) (by show (8 : Int) * _ ≤ _; omega) (by omega)
  refine ⟨_, ?_, this⟩
  show (madeCells _ ((n : Int).toNat * 1)).size = _
  rw [Int.toNat_natCast]
  simp [madeCells]

/-- the first n numbers as a list -/
def fl (f : Nat → Int) : Nat → List Int
  | 0 => []
  | n + 1 => fl f n ++ [f n]
theorem fl_len (f : Nat → Int) : ∀ n, (fl f n).length = n
  | 0 => rfl
  | n + 1 => by simp [fl, fl_len f n]
theorem fl_at (f : Nat → Int) : ∀ (n k : Nat), k < n → (fl f n).getD k 0 = f k
  | n + 1, k, hk => by
    simp only [fl]
    by_cases e : k = n
    · subst e
      rw [List.getD_eq_getElem?_getD, List.getElem?_append_right (by rw [fl_len]; omega), fl_len]
      simp
    · rw [List.getD_eq_getElem?_getD, List.getElem?_append_left (by rw [fl_len]; omega), ← List.getD_eq_getElem?_getD]
      exact fl_at f n k (by omega)
theorem ow_fl {w : World} {B n : Nat} {e : TypeId} {v : Value} {f : Nat → Int} (h : w.ownsRow B e 1 v n (ints (fl f n))) : ∃ a cap b, v = .slice a n cap ∧ Ow a b n f w ∧ (n = 0 ∨ B ≤ b) := by
  by_cases h0 : n = 0
  · obtain ⟨hlen, hv | ⟨b, cap, cur, hv, hg, hcur, _, hm, _, _⟩⟩ := h
    · obtain ⟨rfl, rfl⟩ := hv
      exact ⟨none, 0, B, rfl, .inl rfl, .inl rfl⟩
    · exact ⟨_, _, b, hv, .inl h0, .inl h0⟩
  · obtain ⟨a, cap, b, hv, ho, hB, _⟩ := ow_of_some h (by omega)
    refine ⟨a, cap, b, hv, ?_, .inr hB⟩
    rw [Nat.mul_one] at ho
    rcases ho with h1 | ⟨ha, hr⟩
    · exact .inl h1
    · exact .inr ⟨ha, hr.congr (fun q hq => fl_at f n q hq)⟩

/-- a list is answered: n numbers, new -/
def LsR (n : Nat) (s : Nat → Int) (w : World) (e : Ending) (w' : World) : Prop :=
  ∃ a cap b, e = .returned (.slice a n cap) ∧ Ow a b n s w' ∧ (n = 0 ∨ w.heap.size ≤ b) ∧ Below w.heap.size w w'

/-- an append of one number to a list of the call's own: the walk's step -/
theorem grow1 (w : World) {ops : Array Oper} {rest : List Oper} {o : Oper} {a : Act} {Q : Exit → Act → World → Prop} (hgd : o.guard = none) (s x : Operand)
    (ho : o.op = .call { callee := .builtin .append, args := #[s, x], argTypes := #[24, 24] }) (B : Nat) (v : Value) (n : Nat) (f : Nat → Int) (hs : a.eval s = v) (w0 : World) (hown : w.ownsRow B 2 1 v n (ints (fl f n)))
    (hb : Below B w0 w) (hB : B ≤ w.heap.size) (z : Int) (hz : z = f n) (hx : a.eval x = .slice (some ⟨w.heap.size, 0, none⟩) 1 1) (hn : n ≤ 1048576)
    (h : ∀ v' w', w'.ownsRow B 2 1 v' (n + 1) (ints (fl f (n + 1))) → Below B w0 w' → w.heap.size < w'.heap.size → wpList Try.prog ops Q rest (a.put o.dst v') w') :
    wpList Try.prog ops Q (o :: rest) a (w.alloc (.cells #[.int .i64 z] 2)) := by
  obtain ⟨ti, hi1, hi2, hi3, hi4⟩ := info2
  exact grow w hgd s x 24 ho B 2 ti (.int .i64 0) 1 8 Try.underlying24 hi1 hi2 hi3 hi4 rfl (by omega) v n (fl f n) hs w0 hown hb hB [z] 1 1 hx rfl (by unfold maxLen; omega) (by omega) (by rw [hz]; exact h)

end Go.Proofs.Ytjdbiaoheoialaa
