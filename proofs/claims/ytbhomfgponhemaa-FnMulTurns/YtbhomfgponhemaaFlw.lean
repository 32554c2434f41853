/- What the four operations on floats give where the result is a NaN: some NaN, one draw. -/
import Derived.WalkKit
import Derived.Laws.FloatArith
import Derived.Laws.ComplexArith
import Derived.Deep.Draws
import Derived.Below
import Derived.WalkSmall
import Derived.Test.YtbhomfgponhemaaFl
import Derived.Test.YtbhomfgponhemaaLst
namespace Go.Proofs.Ytbhomfgponhemaa
open Ieee

/-- the NaN that an operation without an answer gives in a world -/
def nanv (w : World) (x y : Nat) : Nat := (Question.nanBits .f64 x y).cut (w.tape w.drawn (.nanBits .f64 x y))

def Arith (op : BinOp) : Prop := op = .add ∨ op = .sub ∨ op = .mul ∨ op = .quo

def isNaN (x : Nat) : Prop := Fl.inf < Fl.rung x

theorem nanv_nan (w : World) (x y : Nat) : isNaN (nanv w x y) := by
  unfold isNaN nanv Fl.inf Fl.rung Question.cut
  simp only
  generalize w.tape w.drawn (.nanBits .f64 x y) = t
  have hq : t / 2 % (2 ^ 52 - 1) < 2 ^ 52 - 1 := Nat.mod_lt _ (by decide)
  have hs : t % 2 = 0 ∨ t % 2 = 1 := by omega
  generalize t / 2 % (2 ^ 52 - 1) = q at *
  rcases hs with hs | hs <;> rw [hs] <;> omega

theorem read_of_nan {x : Nat} (h : isNaN x) : double.read x = .nan (Fl.neg x) (Fl.rung x - Fl.inf) := Fl.read_nan x h

theorem run_nan {P : Program} (w : World) (op : BinOp) (hop : Arith op) (t : TypeId) (x y : Nat) (h : floatBits op .f64 x y = none) :
    (binOp op t (.float .f64 x) (.float .f64 y)).run P w = .ok (.float .f64 (nanv w x y)) w.drew := by
  rcases hop with rfl | rfl | rfl | rfl <;> (unfold floatBits at h; simp only at h; simp [binOp, Op.floatArith, h, nanv, Question.forced])

/-- a float is stored into a cell as every plain value is -/
theorem run_store_float (P : Program) (w : World) (a : Addr) (m : Mode) (k : FloatKind) (b : Nat) : (store a (.float k b) m).run P w = stored P w a (.float k b) m := run_store P w a _ m rfl

/-- what an operation on floats may give -/
def Res (op : BinOp) (x y r : Nat) : Prop := floatBits op .f64 x y = some r ∨ (floatBits op .f64 x y = none ∧ isNaN r)

/-- an operand that is a NaN: no answer -/
theorem bits_nan_left (op : BinOp) (hop : Arith op) (x y : Nat) (h : isNaN x) : floatBits op .f64 x y = none := by
  have e : FloatKind.f64.format = double := rfl
  rcases hop with rfl | rfl | rfl | rfl <;>
    simp [floatBits, e, Format.add, Format.sub, Format.mul, Format.div, read_of_nan h, Datum.sum, Datum.product, Datum.quotient]
theorem bits_nan_right (op : BinOp) (hop : Arith op) (x y : Nat) (h : isNaN y) : floatBits op .f64 x y = none := by
  have e : FloatKind.f64.format = double := rfl
  rcases hop with rfl | rfl | rfl | rfl <;>
    simp only [floatBits, e, Format.add, Format.sub, Format.mul, Format.div, read_of_nan h] <;>
    cases double.read x <;> simp [Datum.sum, Datum.product, Datum.quotient, Datum.opposite]

theorem order_nan_left (x y : Nat) (h : isNaN x) : double.order x y = none := by
  simp [Format.order, read_of_nan h, Datum.order]
theorem order_nan_right (x y : Nat) (h : isNaN y) : double.order x y = none := by
  simp only [Format.order, read_of_nan h]
  cases double.read x <;> simp [Datum.order]

/-- what an operation gives in a world, and how often it draws -/
def fval (op : BinOp) (x y : Nat) (w : World) : Nat := match floatBits op .f64 x y with
  | some r => r
  | none => nanv w x y
def fcnt (op : BinOp) (x y : Nat) : Nat := match floatBits op .f64 x y with
  | some _ => 0
  | none => 1

theorem fval_res (op : BinOp) (x y : Nat) (w : World) : Res op x y (fval op x y w) := by
  unfold Res fval
  cases h : floatBits op .f64 x y with
  | none => exact .inr ⟨rfl, nanv_nan w x y⟩
  | some r => exact .inl rfl

theorem fval_some {op : BinOp} {x y r : Nat} (h : floatBits op .f64 x y = some r) (w : World) : fval op x y w = r := by
  unfold fval; rw [h]
theorem fcnt_some {op : BinOp} {x y r : Nat} (h : floatBits op .f64 x y = some r) : fcnt op x y = 0 := by
  unfold fcnt; rw [h]

theorem run_f {P : Program} (w : World) (op : BinOp) (hop : Arith op) (t : TypeId) (x y : Nat) :
    (binOp op t (.float .f64 x) (.float .f64 y)).run P w = .ok (.float .f64 (fval op x y w)) (w.drewN (fcnt op x y)) := by
  cases h : floatBits op .f64 x y with
  | none => rw [run_nan w op hop t x y h]; unfold fval fcnt; rw [h]; rfl
  | some r => rw [run_float_arith w op t .f64 x y r h]; unfold fval fcnt; rw [h]; rfl

theorem run_fadd {P : Program} (w : World) (t : TypeId) (x y : Nat) :
    (binOp .add t (.float .f64 x) (.float .f64 y)).run P w = .ok (.float .f64 (fval .add x y w)) (w.drewN (fcnt .add x y)) := run_f w .add (.inl rfl) t x y
theorem run_fsub {P : Program} (w : World) (t : TypeId) (x y : Nat) :
    (binOp .sub t (.float .f64 x) (.float .f64 y)).run P w = .ok (.float .f64 (fval .sub x y w)) (w.drewN (fcnt .sub x y)) := run_f w .sub (.inr (.inl rfl)) t x y
theorem run_fmul {P : Program} (w : World) (t : TypeId) (x y : Nat) :
    (binOp .mul t (.float .f64 x) (.float .f64 y)).run P w = .ok (.float .f64 (fval .mul x y w)) (w.drewN (fcnt .mul x y)) := run_f w .mul (.inr (.inr (.inl rfl))) t x y
theorem run_fquo {P : Program} (w : World) (t : TypeId) (x y : Nat) :
    (binOp .quo t (.float .f64 x) (.float .f64 y)).run P w = .ok (.float .f64 (fval .quo x y w)) (w.drewN (fcnt .quo x y)) := run_f w .quo (.inr (.inr (.inr rfl))) t x y

/-- a sum of complex numbers: part by part -/
theorem run_cadd {P : Program} (w : World) (t : TypeId) (a b c d : Nat) :
    (binOp .add t (.complex .f64 a b) (.complex .f64 c d)).run P w =
      .ok (.complex .f64 (fval .add a c w) (fval .add b d (w.drewN (fcnt .add a c)))) ((w.drewN (fcnt .add a c)).drewN (fcnt .add b d)) := by
  have key : ∀ (x y : Nat) (w : World), (Op.Complex.arith .add .f64 x y).run P w = .ok (fval .add x y w) (w.drewN (fcnt .add x y)) := by
    intro x y w
    have h := run_fadd (P := P) w t x y
    simp only [binOp, ne_eq, not_true_eq_false, if_false] at h
    simp [Op.Complex.arith, h]
  simp [binOp, Op.complexOp, key]

theorem alloc_drewN (w : World) (n : Nat) (o : Obj) : (w.drewN n).alloc o = (w.alloc o).drewN n := rfl
theorem setCell_drewN (w : World) (n : Nat) (a : Addr) (v : Value) : (w.drewN n).setCell a v = (w.setCell a v).drewN n := rfl
theorem shape?_drewN (w : World) (n r : Nat) : (w.drewN n).shape? r = w.shape? r := rfl

end Go.Proofs.Ytbhomfgponhemaa
