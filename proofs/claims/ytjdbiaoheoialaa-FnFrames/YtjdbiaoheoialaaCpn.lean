/- Compose: numbers. -/
import Derived.Test.YtjdbiaoheoialaaLr7
import Derived.Test.YtjdbiaoheoialaaBhn
namespace Go.Proofs.Ytjdbiaoheoialaa
open Go.RowKit

/-- a frame that is answered, and whether it is one -/
def FrX (q : Bool) (D : Int) (M T : Nat → Int) (w : World) (e : Ending) (w' : World) : Prop :=
  (q = true ∧ ∃ b0 c0 b1 c1, e = .returned (.tuple #[vFrame D (some ⟨b0, 0, none⟩) 9 c0 (some ⟨b1, 0, none⟩) 3 c1, .bool true]) ∧ w.heap.size ≤ b0 ∧ w.heap.size ≤ b1 ∧ b0 ≠ b1 ∧ Row b0 9 M w' ∧ Row b1 3 T w' ∧ Below w.heap.size w w') ∨
  (q = false ∧ e = .returned (.tuple #[vFrame 0 none 0 0 none 0 0, .bool false]) ∧ Below w.heap.size w w')
/-- the first k are there -/
def hy (F : Nat → Int) (k q : Nat) : Int := if q < k then F q else 0
theorem c9_at (G : Nat → Int) {j : Nat} (h : j < 9) : (c9 G)[j]? = some (.int .i64 (G j)) := by
  match j, h with
  | 0, _ => rfl
  | 1, _ => rfl
  | 2, _ => rfl
  | 3, _ => rfl
  | 4, _ => rfl
  | 5, _ => rfl
  | 6, _ => rfl
  | 7, _ => rfl
  | 8, _ => rfl
theorem c3_at (G : Nat → Int) {j : Nat} (h : j < 3) : (c3 G)[j]? = some (.int .i64 (G j)) := by
  match j, h with
  | 0, _ => rfl
  | 1, _ => rfl
  | 2, _ => rfl
theorem c9_hy (F : Nat → Int) {j : Nat} (h : j < 9) : (c9 (hy F j)).set j (.int .i64 (F j)) = c9 (hy F (j + 1)) := by
  match j, h with
  | 0, _ => rfl
  | 1, _ => rfl
  | 2, _ => rfl
  | 3, _ => rfl
  | 4, _ => rfl
  | 5, _ => rfl
  | 6, _ => rfl
  | 7, _ => rfl
  | 8, _ => rfl
theorem c3_hy (F : Nat → Int) {j : Nat} (h : j < 3) : (c3 (hy F j)).set j (.int .i64 (F j)) = c3 (hy F (j + 1)) := by
  match j, h with
  | 0, _ => rfl
  | 1, _ => rfl
  | 2, _ => rfl
theorem made9 : madeCells #[Value.int .i64 0] 9 = (c9 (hy (fun _ => 0) 0)).toArray := by apply Array.ext'; rw [toList_madeCells_one]; rfl
theorem made3 : madeCells #[Value.int .i64 0] 3 = (c3 (hy (fun _ => 0) 0)).toArray := by apply Array.ext'; rw [toList_madeCells_one]; rfl
theorem c9_px {q : Nat} {G : Nat → Int} {w : World} (h : Bx q (c9 G) w) : Px (some ⟨q, 0, none⟩) 9 G w := .inr ⟨_, 0, rfl, fun k hk => by rw [Nat.zero_add]; exact (h k _ (c9_at G hk)).1⟩
theorem c3_px {q : Nat} {G : Nat → Int} {w : World} (h : Bx q (c3 G) w) : Px (some ⟨q, 0, none⟩) 3 G w := .inr ⟨_, 0, rfl, fun k hk => by rw [Nat.zero_add]; exact (h k _ (c3_at G hk)).1⟩
theorem Px.px9 {a : Option Addr} {n : Nat} {f g : Nat → Int} {w : World} (h : Px a n f w) (e : ∀ k, k < n → f k = g k) : Px a n g w := by
  rcases h with h | ⟨b, off, h1, h2⟩
  · exact .inl h
  · exact .inr ⟨b, off, h1, fun k hk => by rw [← e k hk]; exact h2 k hk⟩
theorem bhM_at (M L : Nat → Int) {i k : Nat} (hk : k < 3) : bhM M L (3 * i + k) = M (3 * i) * L k + M (3 * i + 1) * L (3 + k) + M (3 * i + 2) * L (6 + k) := by
  unfold bhM timF colF
  have e1 : (3 * i + k) % 3 = k := by omega
  have e2 : (3 * i + k) / 3 = i := by omega
  rw [e1, e2, Nat.mul_zero, Nat.zero_add]
/-- the numbers of the composition -/
def cmG (D : Int) (M T : Nat → Int) (E : Int) (L S : Nat → Int) : Int := rgS (D * E) (bhM M L) (bhT M T S E)
def cmD (D : Int) (M T : Nat → Int) (E : Int) (L S : Nat → Int) : Int := (D * E).tdiv (cmG D M T E L S)
def cmM (D : Int) (M T : Nat → Int) (E : Int) (L S : Nat → Int) : Nat → Int := dvF (bhM M L) (cmG D M T E L S)
def cmT (D : Int) (M T : Nat → Int) (E : Int) (L S : Nat → Int) : Nat → Int := dvF (bhT M T S E) (cmG D M T E L S)
def cmQ (D : Int) (n0 : Nat) (M : Nat → Int) (n1 : Nat) (T : Nat → Int) (E : Int) (m0 : Nat) (L : Nat → Int) (m1 : Nat) (S : Nat → Int) : Bool :=
  frmB D n0 M n1 T && frmB E m0 L m1 S && frmB (cmD D M T E L S) 9 (cmM D M T E L S) 3 (cmT D M T E L S)

end Go.Proofs.Ytjdbiaoheoialaa
