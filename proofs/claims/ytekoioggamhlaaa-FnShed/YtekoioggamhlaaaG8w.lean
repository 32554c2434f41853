/- A visit that works one number out: the number is a captured variable. -/
import Derived.Test.YtekoioggamhlaaaG8f
namespace Go.Proofs.Ytekoioggamhlaaa
open Go.RowKit

/-- what the visit of the first k offsets makes of z -/
def vis (W H p : Int) (g : Nat → Int) (st : Nat → Int → Int → Int) (z : Int) : Nat → Int
  | 0 => z
  | k + 1 => if hasB W H (p % W + g (k * 2)) (p / W + g (k * 2 + 1)) = true then st k ((p / W + g (k * 2 + 1)) * W + (p % W + g (k * 2))) (vis W H p g st z k) else vis W H p g st z k

theorem Px.block_ne {a : Option Addr} {n : Nat} {f : Nat → Int} {w : World} (h : Px a n f w) {c : Nat} (hc : w.heap.size ≤ c) (hn : 0 < n) : ∀ b off, a = some ⟨b, off, none⟩ → b ≠ c := by
  intro b off ha e
  obtain ⟨b', off', ha', hl⟩ := h.lt hn
  rw [ha] at ha'
  cases ha'
  omega

theorem visitFold_any (W H p : Int) (a : Option Addr) (m cap : Nat) (g : Nat → Int) (hm : m ≤ 1048576) (hW : 1 ≤ W) (hW' : W ≤ 64) (hH : 1 ≤ H) (hH' : H ≤ 64) (hp : 0 ≤ p) (hp' : p < 4096)
    (hg : ∀ j, j < m * 2 → -64 ≤ g j ∧ g j ≤ 64) (K : Nat) (hK : ∀ ar w, Sem.run Try.prog (callFunc K ar) w = .ok (.enter K ar) w) (cp : Array Value) (st : Nat → Int → Int → Int) (z : Int) (c : Nat) (w : World)
    (hc : c < w.heap.size) (hz : Bx c [.int .i64 z] w) (hx : Px a (m * 2) g w) (hac : ∀ b off, 0 < m → a = some ⟨b, off, none⟩ → b ≠ c)
    (hv : ∀ k wr, k < m → hasB W H (p % W + g (k * 2)) (p / W + g (k * 2 + 1)) = true → KpS (· = c) w wr → Bx c [.int .i64 (vis W H p g st z k)] wr →
      Calls Try.prog K (#[.int .i64 k, .int .i64 ((p / W + g (k * 2 + 1)) * W + (p % W + g (k * 2)))] ++ cp) wr fun e w' => e = .returned (.tuple #[]) ∧ KpS (· = c) wr w' ∧ Bx c [.int .i64 (st k ((p / W + g (k * 2 + 1)) * W + (p % W + g (k * 2))) (vis W H p g st z k))] w') :
    Calls Try.prog 40 #[gv W H, .int .i64 p, .slice a m cap, .func (.func K) #[] cp] w fun e w' => e = .returned (.tuple #[]) ∧ KpS (· = c) w w' ∧ Bx c [.int .i64 (vis W H p g st z m)] w' := by
  refine (visitAround_any W H p a m cap g hm hW hW' hH hH' hp hp' hg K hK cp (· = c) w (fun b h => by subst h; exact hc)
    (fun wE k wr => KpS (· = c) wE wr ∧ Below w.heap.size w wE ∧ Bx c [.int .i64 (vis W H p g st z k)] wr)
    (fun wE h => ⟨KpS.refl _ _, h, hz.below h hc⟩) (fun _ _ _ h => h.1) ?_ ?_ ?_ ?_).mono ?_
  · intro wE k wr hE h
    by_cases h0 : m = 0
    · exact .inl (by omega)
    · exact (h.1.after hE).px (fun b off e => hac b off (by omega) e) hx
  · intro wE k wr w' h hb
    exact ⟨h.1.next hb, h.2.1, h.2.2.below hb (by have := h.1.size; have := h.2.1.size; omega)⟩
  · intro wE k wr hk hq h
    refine ⟨h.1, h.2.1, ?_⟩
    rw [vis, hq]
    exact h.2.2
  · intro wE k wr hk hq hE h
    refine (hv k wr hk hq (KpS.after hE h.1) h.2.2).mono ?_
    rintro e w' ⟨rfl, h1, h2⟩
    refine ⟨rfl, h.1.trans h1, h.2.1, ?_⟩
    rw [vis, hq]
    exact h2
  · rintro e w' ⟨rfl, wE, hE, h⟩
    exact ⟨rfl, KpS.after hE h.1, h.2.2⟩

theorem Px.at' {a : Option Addr} {len : Nat} {f : Nat → Int} {w : World} {q : Int} (h : Px a len f w) (h0 : 0 ≤ q) (h1 : q < len) :
    ∃ b off, a = some ⟨b, off, none⟩ ∧ w.cell? ⟨b, off + q.toNat, none⟩ = some (.int .i64 (f q.toNat)) := h.at (by omega)

/-- a number, or nought where something is not as it should be -/
def pickI (b : Bool) (x : Int) : Int := if b = true then x else 0
def pickN (b : Bool) (x : Nat) : Nat := if b = true then x else 0
theorem pickN_le (b : Bool) (x : Nat) : pickN b x ≤ x := by unfold pickN; split <;> omega
theorem pickI_t (x : Int) : pickI true x = x := rfl
theorem pickN_t (x : Nat) : pickN true x = x := rfl
theorem pickI_f (x : Int) : pickI false x = 0 := rfl
theorem pickN_f (x : Nat) : pickN false x = 0 := rfl

theorem allB_of {F : Nat → Int} : ∀ {n : Nat}, (∀ k, k < n → -1000000000 ≤ F k ∧ F k ≤ 1000000000) → allB F n = true
  | 0, _ => rfl
  | n + 1, h => allB_step (allB_of (fun k hk => h k (by omega))) (by have := h n (by omega); unfold inB; simp; omega)
theorem okB_of {W H : Int} {n : Nat} {f F : Nat → Int} (h : okB W H n f = true) (hF : ∀ k, k < n → -1000000000 ≤ F k ∧ F k ≤ 1000000000) : okB W H n F = true := by
  unfold okB at h ⊢
  simp only [Bool.and_eq_true] at h ⊢
  exact ⟨h.1, allB_of hF⟩

theorem vis_ind {W H p : Int} {g : Nat → Int} {st : Nat → Int → Int → Int} {z : Int} {P : Nat → Int → Prop} : ∀ {m : Nat}, P 0 z →
    (∀ k v, k < m → hasB W H (p % W + g (k * 2)) (p / W + g (k * 2 + 1)) = true → P k v → P (k + 1) (st k ((p / W + g (k * 2 + 1)) * W + (p % W + g (k * 2))) v)) →
    (∀ k v, k < m → hasB W H (p % W + g (k * 2)) (p / W + g (k * 2 + 1)) = false → P k v → P (k + 1) v) → P m (vis W H p g st z m)
  | 0, h0, _, _ => h0
  | m + 1, h0, h1, h2 => by
    have ih := vis_ind (m := m) h0 (fun k v hk => h1 k v (by omega)) (fun k v hk => h2 k v (by omega))
    unfold vis
    cases hq : hasB W H (p % W + g (m * 2)) (p / W + g (m * 2 + 1))
    · simp only [Bool.false_eq_true, if_false]
      exact h2 m _ (by omega) hq ih
    · simp only [if_true]
      exact h1 m _ (by omega) hq ih

end Go.Proofs.Ytekoioggamhlaaa
