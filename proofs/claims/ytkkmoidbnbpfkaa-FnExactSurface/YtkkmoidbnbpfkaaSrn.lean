/- Surfaces: numbers, and appends of faces. -/
import Derived.Test.YtkkmoidbnbpfkaaFce
import Derived.Test.YtkkmoidbnbpfkaaVlP
import Derived.Test.YtkkmoidbnbpfkaaHom
namespace Go.Proofs.Ytkkmoidbnbpfkaa
open Go.RowKit

/-- the voxel at (x, y, z), 0 where there is none -/
def in3 (X Y Z x y z : Int) : Bool := inB x 0 (X - 1) && (inB y 0 (Y - 1) && inB z 0 (Z - 1))
def vAt (X Y Z : Int) (f : Nat → Int) (x y z : Int) : Int := if in3 X Y Z x y z = true then f ((z * Y + y) * X + x).toNat else 0
theorem in3_iff {X Y Z x y z : Int} : in3 X Y Z x y z = true ↔ (0 ≤ x ∧ x < X) ∧ (0 ≤ y ∧ y < Y) ∧ (0 ≤ z ∧ z < Z) := by
  unfold in3 inB
  simp
  omega
theorem place3 {X Y Z x y z : Int} {n : Nat} (h : in3 X Y Z x y z = true) (hX : X ≤ 32) (hY : Y ≤ 32) (hZ : Z ≤ 32) (hn : (n : Int) = X * Y * Z) :
    (0 ≤ z * Y ∧ z * Y ≤ 1024) ∧ (0 ≤ (z * Y + y) * X ∧ (z * Y + y) * X ≤ 33792) ∧ 0 ≤ (z * Y + y) * X + x ∧ (z * Y + y) * X + x < n := by
  obtain ⟨⟨a, b⟩, ⟨c, d⟩, e, g⟩ := in3_iff.1 h
  have h1 : 0 ≤ z * Y := Int.mul_nonneg e (by omega)
  have h2 : z * Y ≤ (Z - 1) * Y := Int.mul_le_mul_of_nonneg_right (by omega) (by omega)
  have h2' : z * Y ≤ 32 * 32 := Int.mul_le_mul (by omega) (by omega) (by omega) (by omega)
  rw [Int.sub_mul] at h2
  have h3 : 0 ≤ (z * Y + y) * X := Int.mul_nonneg (by omega) (by omega)
  have h4 : (z * Y + y) * X ≤ (Z * Y - 1) * X := Int.mul_le_mul_of_nonneg_right (by omega) (by omega)
  have h4' : (z * Y + y) * X ≤ 1056 * 32 := Int.mul_le_mul (by omega) (by omega) (by omega) (by omega)
  rw [Int.sub_mul] at h4
  have h5 : Z * Y * X = X * Y * Z := by rw [Int.mul_comm (Z * Y) X, Int.mul_comm Z Y, Int.mul_assoc]
  rw [h5, ← hn] at h4
  omega

/-- a face where nothing is behind it -/
def fcL (v : Int) (c : List Int) : List Int := if v ≤ 0 then c else []
def sfQ (X Y Z : Int) (f : Nat → Int) (x y z : Int) : Nat → List Int
  | 0 => fcL (vAt X Y Z f (x - 1) y z) [x, y, z, 1, -1]
  | 1 => fcL (vAt X Y Z f (x + 1) y z) [x + 1, y, z, 1, 1]
  | 2 => fcL (vAt X Y Z f x (y - 1) z) [x, y, z, 2, -1]
  | 3 => fcL (vAt X Y Z f x (y + 1) z) [x, y + 1, z, 2, 1]
  | 4 => fcL (vAt X Y Z f x y (z - 1)) [x, y, z, 3, -1]
  | _ => fcL (vAt X Y Z f x y (z + 1)) [x, y, z + 1, 3, 1]
def sfP (X Y Z : Int) (f : Nat → Int) (x y z : Int) : Nat → List Int
  | 0 => []
  | q + 1 => sfP X Y Z f x y z q ++ sfQ X Y Z f x y z q
def srf (X Y Z : Int) (f : Nat → Int) : Nat → List Int
  | 0 => []
  | k + 1 => if 0 < f k then srf X Y Z f k ++ sfP X Y Z f (k % X) (k / X % Y) (k / X / Y) 6 else srf X Y Z f k
theorem fcL_len (v : Int) (c : List Int) (hc : c.length = 5) : (fcL v c).length ≤ 5 := by unfold fcL; split <;> simp [hc]
theorem sfQ_len (X Y Z : Int) (f : Nat → Int) (x y z : Int) : ∀ q, (sfQ X Y Z f x y z q).length ≤ 5 := by
  intro q
  unfold sfQ
  split <;> exact fcL_len _ _ rfl
theorem sfP_len (X Y Z : Int) (f : Nat → Int) (x y z : Int) : ∀ q, (sfP X Y Z f x y z q).length ≤ 5 * q
  | 0 => by simp [sfP]
  | q + 1 => by
    have := sfP_len X Y Z f x y z q
    have := sfQ_len X Y Z f x y z q
    simp only [sfP, List.length_append]
    omega
theorem srf_len (X Y Z : Int) (f : Nat → Int) : ∀ k, (srf X Y Z f k).length ≤ 30 * k
  | 0 => by simp [srf]
  | k + 1 => by
    have := srf_len X Y Z f k
    have := sfP_len X Y Z f (k % X) (k / X % Y) (k / X / Y) 6
    unfold srf
    split
    · simp only [List.length_append]; omega
    · omega
/-- where voxel number k lies -/
theorem spot3 {X Y Z : Int} {n k : Nat} (hX : 1 ≤ X ∧ X ≤ 32) (hY : 1 ≤ Y ∧ Y ≤ 32) (hn : (n : Int) = X * Y * Z) (hk : k < n) :
    (0 ≤ (k : Int) % X ∧ (k : Int) % X < X) ∧ (0 ≤ (k : Int) / X % Y ∧ (k : Int) / X % Y < Y) ∧ (0 ≤ (k : Int) / X / Y ∧ (k : Int) / X / Y < Z) := by
  refine ⟨⟨Int.emod_nonneg _ (by omega), Int.emod_lt_of_pos _ (by omega)⟩, ⟨Int.emod_nonneg _ (by omega), Int.emod_lt_of_pos _ (by omega)⟩, Int.ediv_nonneg (Int.ediv_nonneg (by omega) (by omega)) (by omega), ?_⟩
  apply Int.ediv_lt_of_lt_mul (by omega)
  apply Int.ediv_lt_of_lt_mul (by omega)
  rw [show Z * Y * X = X * Y * Z by rw [Int.mul_comm (Z * Y) X, Int.mul_comm Z Y, Int.mul_assoc], ← hn]
  omega

set_option maxRecDepth 100000 in
theorem infoF : ∃ i, Try.prog.info? 39 = some i ∧ i.zero = some (vFace 0 0 0 0 0) ∧ i.size = 5 ∧ i.bytes = 40 := ⟨_, rfl, rfl, rfl, rfl⟩
/-- an append of one face to a list of the call's own -/
theorem growF (w : World) {ops : Array Oper} {rest : List Oper} {o : Oper} {a : Act} {Q : Exit → Act → World → Prop} (hgd : o.guard = none) (s x : Operand)
    (ho : o.op = .call { callee := .builtin .append, args := #[s, x], argTypes := #[26, 26] }) (B : Nat) (v : Value) (n : Nat) (L : List Int) (hs : a.eval s = v) (w0 : World) (hown : w.ownsRow B 39 5 v n (ints L))
    (hb : Below B w0 w) (hB : B ≤ w.heap.size) (z0 z1 z2 z3 z4 : Int) (hx : a.eval x = .slice (some ⟨w.heap.size, 0, none⟩) 1 1) (hn : n ≤ 1048576)
    (h : ∀ v' w', w'.ownsRow B 39 5 v' (n + 1) (ints (L ++ [z0, z1, z2, z3, z4])) → Below B w0 w' → w.heap.size < w'.heap.size → wpList Try.prog ops Q rest (a.put o.dst v') w') :
    wpList Try.prog ops Q (o :: rest) a (w.alloc (.cells #[.int .i64 z0, .int .i64 z1, .int .i64 z2, .int .i64 z3, .int .i64 z4] 39)) := by
  obtain ⟨ti, hi1, hi2, hi3, hi4⟩ := infoF
  exact grow w hgd s x 26 ho B 39 ti (vFace 0 0 0 0 0) 5 40 Try.underlying26 hi1 hi2 hi3 hi4 rfl (by omega) v n L hs w0 hown hb hB [z0, z1, z2, z3, z4] 1 1 hx rfl (by unfold maxLen; omega) (by omega) h

/-- faces are answered: their numbers, new -/
def FcR (n : Nat) (s : Nat → Int) (w : World) (e : Ending) (w' : World) : Prop :=
  ∃ a cap b, e = .returned (.slice a n cap) ∧ Ow a b (n * 5) s w' ∧ (n * 5 = 0 ∨ w.heap.size ≤ b) ∧ Below w.heap.size w w'
def srfN (X Y Z : Int) (m : Nat) (f : Nat → Int) : Nat := if volB X Y Z m f = true then (srf X Y Z f m).length / 5 else 0
def srfF (X Y Z : Int) (m : Nat) (f : Nat → Int) (q : Nat) : Int := (srf X Y Z f m).getD q 0

end Go.Proofs.Ytkkmoidbnbpfkaa
