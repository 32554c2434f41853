/- Lists whose cells are values of any kind, floats above all: held by places, filled, grown. -/
import Derived.Test.YtfgjooddolnifaaHol
import Derived.Test.YtfgjooddolnifaaGro
import Derived.Test.YtfgjooddolnifaaFad
namespace Go.Proofs.Ytfgjooddolnifaa
open Ieee Go.RowKit

/-- a slice holds these values, cell by cell -/
def PxV (a : Option Addr) (len : Nat) (f : Nat → Value) (w : World) : Prop :=
  len = 0 ∨ ∃ b off, a = some ⟨b, off, none⟩ ∧ ∀ k, k < len → w.cell? ⟨b, off + k, none⟩ = some (f k)
theorem PxV.below {a : Option Addr} {len : Nat} {f : Nat → Value} {w w' : World} (h : PxV a len f w) (hb : Below w.heap.size w w') : PxV a len f w' := by
  rcases h with h | ⟨b, off, ha, h⟩
  · exact .inl h
  · refine .inr ⟨b, off, ha, fun k hk => ?_⟩
    rw [hb.cell (World.block_lt_of_cell? w _ (h k hk))]; exact h k hk
theorem PxV.at {a : Option Addr} {len : Nat} {f : Nat → Value} {w : World} (h : PxV a len f w) (h0 : 0 < len) :
    ∃ b off, a = some ⟨b, off, none⟩ ∧ b < w.heap.size ∧ ∀ k, k < len → w.cell? ⟨b, off + k, none⟩ = some (f k) := by
  rcases h with h | ⟨b, off, ha, h⟩
  · omega
  · exact ⟨b, off, ha, World.block_lt_of_cell? w _ (h 0 h0), h⟩
theorem PxV.congr {a : Option Addr} {len : Nat} {f g : Nat → Value} {w : World} (h : PxV a len f w) (e : ∀ k, k < len → f k = g k) : PxV a len g w := by
  rcases h with h | ⟨b, off, ha, h⟩
  · exact .inl h
  · exact .inr ⟨b, off, ha, fun k hk => by rw [← e k hk]; exact h k hk⟩
theorem OwV.pxv {a : Option Addr} {b len : Nat} {f : Nat → Value} {w : World} (h : OwV a b len f w) : PxV a len f w := by
  rcases h with h | ⟨rfl, h⟩
  · exact .inl h
  · exact .inr ⟨b, 0, rfl, fun k hk => by rw [Nat.zero_add]; exact (h k hk).1⟩
theorem RowV.ow {b len : Nat} {f : Nat → Value} {w : World} (h : RowV b len f w) : OwV (some ⟨b, 0, none⟩) b len f w := .inr ⟨rfl, h⟩

/-- floats by their words -/
def flt (F : Nat → Nat) : Nat → Value := fun k => .float .f64 (F k)

/-- a row of floats that is being filled: of the first k of them P is known -/
def PartP (b len k : Nat) (P : Nat → Nat → Prop) (w : World) : Prop :=
  ∀ j, j < len → (∃ z, w.cell? ⟨b, j, none⟩ = some (.float .f64 z) ∧ (j < k → P j z)) ∧ w.frozen? ⟨b, j, none⟩ = false
theorem PartP.below {b len k B : Nat} {P : Nat → Nat → Prop} {w w' : World} (h : PartP b len k P w) (hb : Below B w w') (hB : b < B) : PartP b len k P w' := by
  intro j hj
  rw [hb.cell (p := ⟨b, j, none⟩) hB, hb.frozen (p := ⟨b, j, none⟩) hB]
  exact h j hj
theorem PartP.step {b len k : Nat} {P : Nat → Nat → Prop} {w : World} (h : PartP b len k P w) (hk : k < len) (z : Nat) (hz : P k z) : PartP b len (k + 1) P (w.setCell ⟨b, k, none⟩ (.float .f64 z)) := by
  intro j hj
  obtain ⟨⟨y, hy, e⟩, fr⟩ := h j hj
  refine ⟨?_, by simpa using fr⟩
  by_cases hjk : j = k
  · subst hjk
    exact ⟨z, World.cell?_setCell_same _ _ _ hy, fun _ => hz⟩
  · exact ⟨y, by rw [World.cell?_setCell_other _ _ _ _ (by simp; try omega)]; exact hy, fun h => e (by omega)⟩
theorem RowV.partP {b len : Nat} {F : Nat → Nat} {P : Nat → Nat → Prop} {w : World} (h : RowV b len (flt F) w) : PartP b len 0 P w :=
  fun j hj => ⟨⟨_, (h j hj).1, fun h => absurd h (Nat.not_lt_zero _)⟩, (h j hj).2⟩
theorem PartP.row {b len : Nat} {P : Nat → Nat → Prop} {w : World} (h : PartP b len len P w) : ∃ r, RowV b len (flt r) w ∧ ∀ j, j < len → P j (r j) := by
  have each : ∀ j, ∃ z, j < len → w.cell? ⟨b, j, none⟩ = some (.float .f64 z) ∧ P j z ∧ w.frozen? ⟨b, j, none⟩ = false := by
    intro j
    by_cases hj : j < len
    · obtain ⟨⟨z, hz, e⟩, fr⟩ := h j hj
      exact ⟨z, fun _ => ⟨hz, e hj, fr⟩⟩
    · exact ⟨0, fun h => absurd h hj⟩
  obtain ⟨r, hr⟩ := Classical.skolem.1 each
  exact ⟨r, fun j hj => ⟨(hr j hj).1, (hr j hj).2.2⟩, fun j hj => (hr j hj).2.1⟩
theorem PartP.rowE {b len : Nat} {F : Nat → Nat} {w : World} (h : PartP b len len (fun j z => z = F j) w) : RowV b len (flt F) w := by
  obtain ⟨r, hr, e⟩ := h.row
  intro j hj
  have := hr j hj
  unfold flt at this ⊢
  rw [e j hj] at this
  exact this

/-- a list of floats is answered: n of them, new, each as P says -/
def LsP (len n : Nat) (P : Nat → Nat → Prop) (w : World) (e : Ending) (w' : World) : Prop :=
  ∃ a cap b r, e = .returned (.slice a len cap) ∧ OwV a b n (flt r) w' ∧ (n = 0 ∨ w.heap.size ≤ b) ∧ Below w.heap.size w w' ∧ ∀ j, j < n → P j (r j)

/-- floats as cells -/
def fls (L : List Nat) : List Value := L.map (Value.float .f64)
theorem fls_length (L : List Nat) : (fls L).length = L.length := by simp [fls]
theorem fls_append (L M : List Nat) : fls (L ++ M) = fls L ++ fls M := by simp [fls]
theorem fls_at (L : List Nat) (k : Nat) (h : k < L.length) : (fls L)[k]? = some (.float .f64 (L.getD k 0)) := by
  simp [fls, List.getElem?_map, List.getElem?_eq_getElem h]
theorem fls_one (L : List Nat) : ∀ u ∈ fls L, u.oneCell' = true := by
  intro u hu
  obtain ⟨z, _, rfl⟩ := List.mem_map.1 hu
  rfl
def Each (P : Nat → Nat → Prop) (L : List Nat) : Prop := ∀ j, j < L.length → P j (L.getD j 0)
theorem Each.nil (P : Nat → Nat → Prop) : Each P [] := fun _ hj => absurd hj (Nat.not_lt_zero _)
theorem Each.snoc {P : Nat → Nat → Prop} {L : List Nat} (h : Each P L) {z : Nat} (hz : P L.length z) : Each P (L ++ [z]) := by
  intro j hj
  rw [List.length_append, List.length_singleton] at hj
  rw [List.getD_eq_getElem?_getD]
  by_cases e : j = L.length
  · subst e
    rw [List.getElem?_append_right (Nat.le_refl _), Nat.sub_self]
    exact hz
  · rw [List.getElem?_append_left (by omega), ← List.getD_eq_getElem?_getD]
    exact h j (by omega)

theorem owv_of {w : World} {B n m : Nat} {e : TypeId} {v : Value} {L : List Nat} (h : w.ownsRow B e m v n (fls L)) :
    ∃ a cap b, v = .slice a n cap ∧ OwV a b (n * m) (flt fun q => L.getD q 0) w ∧ (n * m = 0 ∨ B ≤ b) := by
  have h' := h
  obtain ⟨hlen, hv | ⟨b, cap, cur, hv, hg, hcur, _, hm, _, _⟩⟩ := h'
  · obtain ⟨rfl, rfl⟩ := hv
    exact ⟨none, 0, B, rfl, .inl (by simp), .inl (by simp)⟩
  · subst hv
    refine ⟨some ⟨b, 0, none⟩, cap, b, rfl, .inr ⟨rfl, fun k hk => ⟨?_, h.frozenAt k⟩⟩, .inr hg⟩
    rw [h.cellAt k hk]
    exact fls_at L k (by rw [fls_length] at hlen; omega)

/-- an append of new floats to a list of the call's own: the walk's step -/
theorem growV {P : Program} (w : World) {ops : Array Oper} {rest : List Oper} {o : Oper} {a : Act} {Q : Exit → Act → World → Prop} (hgd : o.guard = none) (s x : Operand) (t : TypeId)
    (ho : o.op = .call { callee := .builtin .append, args := #[s, x], argTypes := #[t, t] }) (B : Nat) (e : TypeId) (i : TypeInfo) (z : Value) (size bytes : Nat) (ht : P.underlying t = some (.slice e)) (hi : P.info? e = some i) (hz : i.zero = some z)
    (hsize : i.size = size) (hby : i.bytes = bytes) (hzs : z.cells.size = size) (hsz : 0 < size) (v : Value) (n : Nat) (L : List Nat) (hs : a.eval s = v) (w0 : World) (hown : w.ownsRow B e size v n (fls L)) (hb : Below B w0 w) (hB : B ≤ w.heap.size)
    (M : List Nat) (m c : Nat) (hx : a.eval x = .slice (some ⟨w.heap.size, 0, none⟩) m c) (hM : M.length = m * size) (h63 : n + m ≤ maxLen) (hbytes : (n + m) * bytes ≤ 140737488355328)
    (h : ∀ v' w', w'.ownsRow B e size v' (n + m) (fls (L ++ M)) → Below B w0 w' → w.heap.size < w'.heap.size → wpList P ops Q rest (a.put o.dst v') w') :
    wpList P ops Q (o :: rest) a (w.alloc (.cells (fls M).toArray e)) := by
  have hsw : w.heap.size < (w.alloc (.cells (fls M).toArray e)).heap.size := by simp
  refine wpList_append_own _ hgd s x t ho B e i z size bytes ht hi hz hsize hby hzs hsz v n (fls L) hs (hown.alloc _) ⟨w.heap.size, 0, none⟩ m c (fls M) hx (by rw [fls_length]; exact hM) (new_cells w (fls M) e) (fls_one M) h63 hbytes (Nat.le_trans hB (Nat.le_of_lt hsw)) ?_
  intro v' w' h1 h2 _
  have hr3 : ∀ q, Value.ownBlock v = some q → B ≤ q := fun q hq => (hown.lt q hq).1
  have hB3 : Below B (w.alloc (.cells (fls M).toArray e)) w' := (Below.refl _ _).grown h2 (Nat.le_trans hB (Nat.le_of_lt hsw)) hr3
  refine h v' w' ?_ ((hb.alloc hB _).trans hB3) (Nat.lt_of_lt_of_le hsw hB3.size)
  rw [fls_append]; exact h1

/-- a float that is a whole number is no NaN -/
theorem nearest_num (s : Bool) (m : Nat) (p : Int) : ¬ isNaN (double.nearest s m p) := by
  unfold isNaN Format.nearest
  split
  · rw [Fl.rung_word _ _ (by decide)]; decide
  · dsimp only
    rw [Fl.infRung_eq, Fl.rung_word _ _ (Nat.lt_of_le_of_lt (Nat.min_le_right _ _) Fl.inf_lt)]
    exact Nat.not_lt.2 (Nat.min_le_right _ _)
/-- the marks -/
def fmk (n : Int) : Nat := floatOfInt .f64 n
theorem fmk_num (n : Int) : ¬ isNaN (fmk n) := nearest_num _ _ _
theorem fmk_self (n : Int) : FloatKind.f64.format.order (floatOfInt .f64 n) (floatOfInt .f64 n) = some .eq := order_self _ (fmk_num n)

end Go.Proofs.Ytfgjooddolnifaa
