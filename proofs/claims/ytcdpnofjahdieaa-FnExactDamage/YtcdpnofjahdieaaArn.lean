/- Archives: numbers alone. -/
import Derived.Test.YtcdpnofjahdieaaSnt
import Derived.Test.YtcdpnofjahdieaaWsm
import Derived.Test.YtcdpnofjahdieaaDgt
import Derived.Lib.Bytealg
namespace Go.Proofs.Ytcdpnofjahdieaa
open Go.RowKit

def lessT (a b : ByteArray) : Bool := Op.bytesLess a.toList b.toList
/-- is the first name and version ahead of the second -/
def lessM (a : ByteArray) (v : Int) (b : ByteArray) (u : Int) : Bool := lessT a b || (a.toList == b.toList && decide (v < u))
def cmpI (v u : Int) : Int := if v < u then -1 else if u < v then 1 else 0
def cmpT (a b : ByteArray) : Int := Lib.compareBytes a.data.toList b.data.toList
def cmpM (a : ByteArray) (v : Int) (b : ByteArray) (u : Int) : Int := if cmpT a b = 0 then cmpI v u else cmpT a b
theorem cb_is : ∀ (x y : List UInt8), (Op.bytesLess x y = true ∧ Lib.compareBytes x y = -1 ∧ x ≠ y) ∨ (x = y ∧ Lib.compareBytes x y = 0 ∧ Op.bytesLess x y = false) ∨ (Op.bytesLess x y = false ∧ x ≠ y ∧ Lib.compareBytes x y = 1)
  | [], [] => .inr (.inl ⟨rfl, by simp [Lib.compareBytes], by simp [Op.bytesLess]⟩)
  | [], b :: y => .inl ⟨by simp [Op.bytesLess], by simp [Lib.compareBytes], by simp⟩
  | a :: x, [] => .inr (.inr ⟨by simp [Op.bytesLess], by simp, by simp [Lib.compareBytes]⟩)
  | a :: x, b :: y => by
    have ih := cb_is x y
    unfold Op.bytesLess Lib.compareBytes
    by_cases h1 : a < b
    · left
      refine ⟨by simp [h1], by rw [if_pos h1], fun e => ?_⟩
      cases e
      exact UInt8.lt_irrefl _ h1
    · by_cases h2 : b < a
      · right; right
        have hne : a ≠ b := fun e => by subst e; exact UInt8.lt_irrefl _ h2
        refine ⟨by simp [h1, hne], fun e => by cases e; exact UInt8.lt_irrefl _ h2, by rw [if_neg h1, if_pos h2]⟩
      · have he : a = b := UInt8.le_antisymm (UInt8.not_lt.1 h2) (UInt8.not_lt.1 h1)
        subst he
        rw [if_neg h1, if_neg h1]
        rcases ih with ⟨i1, i2, i3⟩ | ⟨i1, i2, i3⟩ | ⟨i1, i2, i3⟩
        · exact .inl ⟨by simp [i1], i2, fun e => i3 (by cases e; rfl)⟩
        · exact .inr (.inl ⟨by rw [i1], i2, by simp [i3, UInt8.lt_irrefl]⟩)
        · exact .inr (.inr ⟨by simp [i1, UInt8.lt_irrefl], fun e => i2 (by cases e; rfl), i3⟩)
theorem cmpT_bd (a b : ByteArray) : cmpT a b = -1 ∨ cmpT a b = 0 ∨ cmpT a b = 1 := by
  unfold cmpT
  rcases cb_is a.data.toList b.data.toList with ⟨_, h, _⟩ | ⟨_, h, _⟩ | ⟨_, _, h⟩ <;> simp [h]
theorem cmpM_iff (a : ByteArray) (v : Int) (b : ByteArray) (u : Int) : decide (0 ≤ cmpM a v b u) = !lessM a v b u := by
  unfold cmpM lessM lessT cmpT
  rw [ByteArray.toList_eq, ByteArray.toList_eq]
  rcases cb_is a.data.toList b.data.toList with ⟨h1, h2, h3⟩ | ⟨h1, h2, h3⟩ | ⟨h1, h2, h3⟩
  · rw [h2, h1]; simp
  · rw [h2, h3, h1]
    simp only [if_true, beq_self_eq_true, Bool.false_or, Bool.true_and]
    unfold cmpI
    split
    · simp [*]
    · split <;> simp [*]
  · rw [h3, h1]
    have : (a.data.toList == b.data.toList) = false := beq_eq_false_iff_ne.2 h2
    rw [this]
    simp
def keyB (s : ByteArray) (v : Int) : Bool := inB s.size 1 40 && inB v 1 1000
/-- is it behind the one ahead -/
def prvB (nm : Nat → ByteArray) (ve : Nat → Int) : Nat → Bool
  | 0 => true
  | k + 1 => lessM (nm k) (ve k) (nm (k + 1)) (ve (k + 1))
def ordB (nm : Nat → ByteArray) (ve : Nat → Int) (n : Nat) : Bool := decide (n ≤ 200) && allG (fun k => keyB (nm k) (ve k) && prvB nm ve k) n
def sumB (x : Int) : Bool := inB x 0 2305843009213693950
def idxB (E : Nat → SEntry) (n : Nat) : Bool := ordB (fun k => (E k).f0) (fun k => (E k).f1) n && allG (fun k => sumB (E k).f2 && inB (E k).f3 1 2 && inB (E k).f4 0 8) n
def shfB (C : Nat → SCopy) (n : Nat) : Bool := ordB (fun k => (C k).f0) (fun k => (C k).f1) n && allG (fun k => sumB (C k).f3 && decide ((C k).f2.size ≤ 2048)) n
theorem allG_and (p q : Nat → Bool) : ∀ n, allG (fun k => p k && q k) n = (allG p n && allG q n)
  | 0 => rfl
  | n + 1 => by
    simp only [allG]
    rw [allG_and p q n]
    cases allG p n <;> cases allG q n <;> cases p n <;> cases q n <;> rfl
theorem allG_congr {p q : Nat → Bool} : ∀ {n : Nat}, (∀ k, k < n → p k = q k) → allG p n = allG q n
  | 0, _ => rfl
  | n + 1, h => by simp only [allG]; rw [allG_congr (fun k hk => h k (by omega)), h n (by omega)]
/-- the bytes of a text -/
def txL (t : ByteArray) : List Int := t.data.toList.map fun b => (b.toNat : Int)
theorem txL_len (t : ByteArray) : (txL t).length = t.size := by unfold txL; rw [List.length_map]; rfl
theorem txL_by (t : ByteArray) : ∀ x ∈ txL t, 0 ≤ x ∧ x ≤ 255 := fun x hx => by
  obtain ⟨b, _, rfl⟩ := List.mem_map.1 hx
  have := b.toNat_lt
  omega
theorem lowL_by (s : Nat) : ∀ u : Int, ∀ x ∈ lowL u s, 0 ≤ x ∧ x ≤ 255 := by
  induction s with
  | zero => intro u x hx; simp [lowL] at hx
  | succ s ih =>
    intro u x hx
    simp only [lowL, List.mem_cons] at hx
    rcases hx with rfl | hx
    · omega
    · exact ih _ x hx
/-- what a chain's sum is made of -/
def chL (last tick kind ver : Int) (nm : ByteArray) : List Int := lowL (IntKind.u64.wrap last) 8 ++ lowL (IntKind.u64.wrap tick) 8 ++ lowL (IntKind.u64.wrap kind) 8 ++ lowL (IntKind.u64.wrap ver) 8 ++ txL nm
theorem chL_len (last tick kind ver : Int) (nm : ByteArray) : (chL last tick kind ver nm).length = 32 + nm.size := by
  unfold chL
  simp only [List.length_append, lowL_len, txL_len]
theorem chL_by (last tick kind ver : Int) (nm : ByteArray) : ∀ x ∈ chL last tick kind ver nm, 0 ≤ x ∧ x ≤ 255 := fun x hx => by
  unfold chL at hx
  simp only [List.mem_append] at hx
  rcases hx with (((h | h) | h) | h) | h
  · exact lowL_by 8 _ x h
  · exact lowL_by 8 _ x h
  · exact lowL_by 8 _ x h
  · exact lowL_by 8 _ x h
  · exact txL_by nm x h
def dgL (L : List Int) : Int := dig (fun k => L.getD k 0) L.length L.length
def chV (last tick kind ver : Int) (nm : ByteArray) : Int := dgL (chL last tick kind ver nm)
def preI (f : Nat → Int) : Nat → Int
  | 0 => 0
  | k + 1 => f k
/-- is note number k right -/
def notB (E : Nat → SNote) (clock : Int) (k : Nat) : Bool :=
  inB (E k).f0 (preI (fun j => (E j).f0) k) clock && inB (E k).f1 1 8 && decide ((E k).f2.size ≤ 40) && inB (E k).f3 0 1000 && ((E k).f4 == chV (preI (fun j => (E j).f4) k) (E k).f0 (E k).f1 (E k).f3 (E k).f2)
def bokB (E : Nat → SNote) (n : Nat) (clock : Int) : Bool := decide (n ≤ 4000) && allG (notB E clock) n
def archB (I : Nat → SEntry) (nI : Nat) (L : Nat → SCopy) (nL : Nat) (R : Nat → SCopy) (nR : Nat) (A : Nat → SNote) (nA : Nat) (clock : Int) : Bool :=
  inB clock 0 1000000000 && idxB I nI && shfB L nL && shfB R nR && bokB A nA clock

end Go.Proofs.Ytcdpnofjahdieaa
