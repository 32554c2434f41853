/- Two residues out of two sums: the program's own functions. -/
import Derived.Test.YtpeocbhnnpppjaaPow
import Derived.Test.YtpeocbhnnpppjaaFol
import Derived.Deep.RegionHeld
namespace Go.Proofs.Ytpeocbhnnpppjaa
open Go.RowKit

/-- a d - b c as a residue -/
def crs (a b c d : Int) : Int := res (a * d - b * c)
theorem crs_bd (a b c d : Int) : 0 ≤ crs a b c d ∧ crs a b c d < 12289 := res_bd _
/-- the residue that times n is 1 -/
def inv (n : Int) : Int := powB n 12287
theorem inv_bd (n : Int) : 0 ≤ inv n ∧ inv n < 12289 := by
  have e : inv n = pw n 12287 := by unfold inv powB; rfl
  rw [e]; exact pw_bd n 12287

def Sm (x : Int) : Prop := -1000000000 ≤ x ∧ x ≤ 1000000000

theorem crossed_any (a b c d : Int) (ha : Sm a) (hb : Sm b) (hc : Sm c) (hd : Sm d) (w : World) :
    Calls Try.prog 30 #[.int .i64 a, .int .i64 b, .int .i64 c, .int .i64 d] w fun e w' => e = .returned (.int .i64 (crs a b c d)) ∧ w' = w := by
  obtain ⟨a1, a2⟩ := ha
  obtain ⟨b1, b2⟩ := hb
  obtain ⟨c1, c2⟩ := hc
  obtain ⟨d1, d2⟩ := hd
  obtain ⟨X1, hX1⟩ : ∃ X, X = a * d := ⟨_, rfl⟩
  obtain ⟨X2, hX2⟩ : ∃ X, X = b * c := ⟨_, rfl⟩
  obtain ⟨X3, hX3⟩ : ∃ X, X = X1 - X2 := ⟨_, rfl⟩
  have v1 : X1.natAbs ≤ 1000000000 * 1000000000 := by rw [hX1]; exact natb (by omega) (by omega)
  have v2 : X2.natAbs ≤ 1000000000 * 1000000000 := by rw [hX2]; exact natb (by omega) (by omega)
  have m1 : IntKind.i64.wrap (a * d) = X1 := by rw [← hX1]; exact wrapn v1 (by omega)
  have m2 : IntKind.i64.wrap (b * c) = X2 := by rw [← hX2]; exact wrapn v2 (by omega)
  have m3 : IntKind.i64.wrap (X1 - X2) = X3 := by rw [IntKind.wrap_i64]; omega
  have cM := residue_any X3
  have e : crs a b c d = res X3 := by unfold crs; rw [hX3, hX1, hX2]
  rw [e]
  clear e v1 v2 hX1 hX2 hX3 a1 a2 b1 b2 c1 c2 d1 d2
  go_enter Try.func30, Try.ntmps30
  go_wp2_with fail
  refine (cM _).mono ?_
  rintro e w1 ⟨rfl, rfl⟩
  go_wp2_with fail
  go_ret
  exact ⟨rfl, rfl⟩

theorem inverse_any (n : Int) (w : World) : Calls Try.prog 31 #[.int .i64 n] w fun e w' => e = .returned (.int .i64 (inv n)) ∧ w' = w := by
  have c := implPower_any n 12287
  have e : inv n = powB n 12287 := rfl
  rw [e]
  generalize powB n 12287 = V at *
  go_enter Try.func31, Try.ntmps31
  go_wp2_with fail
  refine (c _).mono ?_
  rintro e w1 ⟨rfl, rfl⟩
  go_wp2_with fail
  go_ret
  exact ⟨rfl, rfl⟩

/-- the first and the second residue -/
def slv1 (a0 a1 b0 b1 f g : Int) : Int := if crs a0 a1 b0 b1 = 0 then 0 else res (crs f a1 g b1 * inv (crs a0 a1 b0 b1))
def slv2 (a0 a1 b0 b1 f g : Int) : Int := if crs a0 a1 b0 b1 = 0 then 0 else res (crs a0 f b0 g * inv (crs a0 a1 b0 b1))

set_option maxRecDepth 100000 in
set_option maxHeartbeats 1000000 in
theorem solvePair_any (a0 a1 b0 b1 f g : Int) (ha0 : Sm a0) (ha1 : Sm a1) (hb0 : Sm b0) (hb1 : Sm b1) (hf : Sm f) (hg : Sm g) (w : World) :
    Calls Try.prog 21 #[.agg #[.int .i64 a0, .int .i64 a1], .agg #[.int .i64 b0, .int .i64 b1], .int .i64 f, .int .i64 g] w fun e w' => e = .returned (.tuple #[.int .i64 (slv1 a0 a1 b0 b1 f g), .int .i64 (slv2 a0 a1 b0 b1 f g), .bool (!(crs a0 a1 b0 b1 == 0))]) ∧ Below w.heap.size w w' := by
  have c1 := crossed_any a0 a1 b0 b1 ha0 ha1 hb0 hb1
  have c2 := crossed_any f a1 g b1 hf ha1 hg hb1
  have c3 := crossed_any a0 f b0 g ha0 hf hb0 hg
  have HB0 : Hid (∀ o o', Below w.heap.size w ((w.alloc o).alloc o')) := fun o o' => (bnew _ _).alloc (by simp) _
  have u2 := crs_bd f a1 g b1
  have u3 := crs_bd a0 f b0 g
  unfold slv1 slv2
  generalize crs f a1 g b1 = C2 at *
  generalize crs a0 f b0 g = C3 at *
  generalize crs a0 a1 b0 b1 = C1 at *
  clear ha0 ha1 hb0 hb1 hf hg
  by_cases h0 : C1 = 0
  · subst h0
    simp only [if_true]
    clear c2 c3 u2 u3
    go_enter Try.func21, Try.ntmps21
    go_wp2_with fail
    refine (c1 _).mono ?_
    rintro e w1 ⟨rfl, rfl⟩
    go_wp2_with fail
    go_ret3
    exact ⟨rfl, HB0.out _ _⟩
  · have h0' : (C1 == 0) = false := by simpa using h0
    rw [if_neg h0, if_neg h0, h0']
    have cV := inverse_any C1
    have uV := inv_bd C1
    generalize inv C1 = V at *
    obtain ⟨X2, hX2⟩ : ∃ X, X = C2 * V := ⟨_, rfl⟩
    obtain ⟨X3, hX3⟩ : ∃ X, X = C3 * V := ⟨_, rfl⟩
    have v2 : X2.natAbs ≤ 12289 * 12289 := by rw [hX2]; exact natb (by omega) (by omega)
    have v3 : X3.natAbs ≤ 12289 * 12289 := by rw [hX3]; exact natb (by omega) (by omega)
    have m2 : IntKind.i64.wrap (C2 * V) = X2 := by rw [← hX2]; exact wrapn v2 (by omega)
    have m3 : IntKind.i64.wrap (C3 * V) = X3 := by rw [← hX3]; exact wrapn v3 (by omega)
    rw [← hX2, ← hX3]
    have r2 := residue_any X2
    have r3 := residue_any X3
    generalize res X2 = R2 at *
    generalize res X3 = R3 at *
    clear hX2 hX3 v2 v3 u2 u3 uV h0
    go_enter Try.func21, Try.ntmps21
    go_wp2_with fail
    refine (c1 _).mono ?_
    rintro e w1 ⟨rfl, rfl⟩
    clear c1
    go_wp2_with fail
    refine (cV _).mono ?_
    rintro e w1 ⟨rfl, rfl⟩
    clear cV
    go_upto_region 5 with fail
    have HBd : Hid (∀ o o', Below w.heap.size w ((w.alloc o).alloc o').drew) := fun o o' => (HB0.out o o').drew
    go_region_held (fun w' => w'.cell? ⟨w.heap.size, 0, none⟩ = some (.int .i64 a0) ∧ w'.cell? ⟨w.heap.size, 1, none⟩ = some (.int .i64 a1) ∧ w'.cell? ⟨w.heap.size + 1, 0, none⟩ = some (.int .i64 b0) ∧ w'.cell? ⟨w.heap.size + 1, 1, none⟩ = some (.int .i64 b1))
      (first | go_keep | (refine ⟨?_, ?_, ?_, ?_⟩ <;> simp [go_sem]))
      (first
        | (go_at_call 30; (with_reducible refine (c2 _).mono ?_); rintro e w4 ⟨rfl, rfl⟩)
        | (go_at_call 30; (with_reducible refine (c3 _).mono ?_); rintro e w4 ⟨rfl, rfl⟩)
        | (go_at_call 20; (with_reducible refine (r2 _).mono ?_); rintro e w4 ⟨rfl, rfl⟩)
        | (go_at_call 20; (with_reducible refine (r3 _).mono ?_); rintro e w4 ⟨rfl, rfl⟩))
    all_goals
      clear c2 c3 r2 r3 m2 m3
      go_wp2_with fail
      go_ret3
      exact ⟨rfl, by first | exact HBd.out _ _ | exact HB0.out _ _⟩

end Go.Proofs.Ytpeocbhnnpppjaa
