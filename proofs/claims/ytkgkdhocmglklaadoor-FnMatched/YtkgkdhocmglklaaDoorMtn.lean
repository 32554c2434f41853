/- The best fit: numbers alone. -/
import Derived.Test.YtkgkdhocmglklaaDoorFcn
namespace Go.Proofs.YtkgkdhocmglklaaDoor
open Go.RowKit

/-- a fit: its turn, its shift, its cost -/
structure FT where
  t : Int
  x : Int
  y : Int
  z : Int
  c : Int
/-- none yet -/
def FT.no : FT := ⟨-1, 0, 0, 0, -1⟩
/-- the first one stays unless the second one costs less -/
def cmb (b m : FT) : FT := if m.c < 0 then b else if b.c < 0 ∨ m.c < b.c then m else b
theorem cmb_no (b : FT) : cmb b .no = b := by unfold cmb FT.no; simp
theorem cmb_assoc (b m k : FT) (_ : -1 ≤ b.c) : cmb (cmb b m) k = cmb b (cmb m k) := by
  unfold cmb
  by_cases h1 : k.c < 0
  · simp only [h1, if_true]
  · by_cases h2 : m.c < 0
    · simp only [h1, h2, if_true, if_false, true_or]
    · by_cases h3 : b.c < 0 ∨ m.c < b.c
      · by_cases h4 : k.c < m.c
        · have h5 : b.c < 0 ∨ k.c < b.c := by omega
          simp only [h1, h2, h3, h4, h5, if_true, if_false, or_true]
        · simp only [h1, h2, h3, h4, if_true, if_false, or_false]
      · by_cases h4 : k.c < m.c
        · have h6 : ¬ b.c < 0 := by omega
          have h7 : ¬ m.c < b.c := by omega
          simp only [h1, h2, h4, h6, h7, if_true, if_false, or_true, false_or]
        · have h6 : ¬ (b.c < 0 ∨ k.c < b.c) := by omega
          simp only [h1, h2, h3, h4, h6, if_false, or_false]
theorem cmb_lo (b m : FT) (hb : -1 ≤ b.c) : -1 ≤ (cmb b m).c := by
  unfold cmb
  repeat' split
  all_goals omega

/-- the shifts of one turn: over z, over y, over x -/
def bz (co : Int → Int → Int → Int) (tn r x y : Int) (b : FT) : Nat → FT
  | 0 => b
  | k + 1 => cmb (bz co tn r x y b k) ⟨tn, x, y, (k : Int) - r, co x y ((k : Int) - r)⟩
def by' (co : Int → Int → Int → Int) (tn r x : Int) (m : Nat) (b : FT) : Nat → FT
  | 0 => b
  | k + 1 => bz co tn r x ((k : Int) - r) (by' co tn r x m b k) m
def bx (co : Int → Int → Int → Int) (tn r : Int) (m : Nat) (b : FT) : Nat → FT
  | 0 => b
  | k + 1 => by' co tn r ((k : Int) - r) m (bx co tn r m b k) m
theorem bz_cmb (co : Int → Int → Int → Int) (tn r x y : Int) (b : FT) (hb : -1 ≤ b.c) : ∀ k, bz co tn r x y b k = cmb b (bz co tn r x y .no k) ∧ -1 ≤ (bz co tn r x y b k).c
  | 0 => ⟨(cmb_no b).symm, hb⟩
  | k + 1 => by
    have h := bz_cmb co tn r x y b hb k
    refine ⟨?_, ?_⟩
    · show cmb (bz co tn r x y b k) _ = cmb b (cmb (bz co tn r x y .no k) _)
      rw [h.1, cmb_assoc _ _ _ hb]
    · exact cmb_lo _ _ h.2
theorem no_lo : -1 ≤ FT.no.c := by decide
theorem by_cmb (co : Int → Int → Int → Int) (tn r x : Int) (m : Nat) (b : FT) (hb : -1 ≤ b.c) : ∀ k, by' co tn r x m b k = cmb b (by' co tn r x m .no k) ∧ -1 ≤ (by' co tn r x m b k).c
  | 0 => ⟨(cmb_no b).symm, hb⟩
  | k + 1 => by
    have h := by_cmb co tn r x m b hb k
    have h0 := by_cmb co tn r x m .no no_lo k
    have g := bz_cmb co tn r x ((k : Int) - r) (by' co tn r x m b k) h.2 m
    have g0 := bz_cmb co tn r x ((k : Int) - r) (by' co tn r x m .no k) h0.2 m
    refine ⟨?_, g.2⟩
    show bz co tn r x ((k : Int) - r) (by' co tn r x m b k) m = cmb b (bz co tn r x ((k : Int) - r) (by' co tn r x m .no k) m)
    rw [g.1, g0.1, h.1, cmb_assoc _ _ _ hb]
theorem bx_cmb (co : Int → Int → Int → Int) (tn r : Int) (m : Nat) (b : FT) (hb : -1 ≤ b.c) : ∀ k, bx co tn r m b k = cmb b (bx co tn r m .no k) ∧ -1 ≤ (bx co tn r m b k).c
  | 0 => ⟨(cmb_no b).symm, hb⟩
  | k + 1 => by
    have h := bx_cmb co tn r m b hb k
    have h0 := bx_cmb co tn r m .no no_lo k
    have g := by_cmb co tn r ((k : Int) - r) m (bx co tn r m b k) h.2 m
    have g0 := by_cmb co tn r ((k : Int) - r) m (bx co tn r m .no k) h0.2 m
    refine ⟨?_, g.2⟩
    show by' co tn r ((k : Int) - r) m (bx co tn r m b k) m = cmb b (by' co tn r ((k : Int) - r) m (bx co tn r m .no k) m)
    rw [g.1, g0.1, h.1, cmb_assoc _ _ _ hb]
/-- all turns, one behind the other -/
def bt (co : Nat → Int → Int → Int → Int) (r : Int) (m : Nat) : Nat → FT
  | 0 => .no
  | T + 1 => bx (co T) (T : Int) r m (bt co r m T) m
theorem bt_cmb (co : Nat → Int → Int → Int → Int) (r : Int) (m : Nat) : ∀ T, -1 ≤ (bt co r m T).c ∧ bt co r m (T + 1) = cmb (bt co r m T) (bx (co T) (T : Int) r m .no m)
  | 0 => ⟨no_lo, (bx_cmb (co 0) 0 r m .no no_lo m).1⟩
  | T + 1 => by
    have h := bt_cmb co r m T
    have g := bx_cmb (co T) (T : Int) r m (bt co r m T) h.1 m
    exact ⟨g.2, (bx_cmb (co (T + 1)) ((T + 1 : Nat) : Int) r m (bt co r m (T + 1)) g.2 m).1⟩

end Go.Proofs.YtkgkdhocmglklaaDoor
