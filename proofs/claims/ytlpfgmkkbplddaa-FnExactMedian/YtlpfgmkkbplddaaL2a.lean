/- A pixel, or another number where there is none: l2At. Lists that are written in place. -/
import Derived.Test.YtlpfgmkkbplddaaG8w
namespace Go.Proofs.Ytlpfgmkkbplddaa
open Go.RowKit

/-- the pixel at (x, y), z where there is none -/
def atF (W H : Int) (f : Nat → Int) (x y z : Int) : Int := if hasB W H x y = true then f (y * W + x).toNat else z

set_option maxRecDepth 100000 in
set_option maxHeartbeats 1000000 in
theorem l2At_any (W H : Int) (a : Option Addr) (n cap : Nat) (f : Nat → Int) (hn : (n : Int) = W * H) (hW : 1 ≤ W) (hW' : W ≤ 64) (hH : 1 ≤ H) (hH' : H ≤ 64) (x y z : Int) (w : World) (h : Px a n f w) :
    Calls Try.prog 83 #[im W H a n cap, .int .i64 x, .int .i64 y, .int .i64 z] w fun e w' => e = .returned (.int .i64 (atF W H f x y z)) ∧ Below w.heap.size w w' := by
  have HS0 := hide ((St.start w).box [.int .i64 W, .int .i64 H, .slice a n cap] 26)
  have HP := hide (h.below HS0.out.below)
  clear h
  unfold atF
  cases hq : hasB W H x y
  · have hno : ¬ ((0 ≤ x ∧ x < W) ∧ 0 ≤ y ∧ y < H) := fun e => by rw [hasB_iff.2 e] at hq; cases hq
    rw [if_neg (by simp)]
    clear hq HP hn
    by_cases h1 : x < 0
    · go_enter Try.func83, Try.ntmps83
      go_wp2_with fail
      go_ret
      exact ⟨rfl, HS0.out.below⟩
    by_cases h2 : y < 0
    · go_enter Try.func83, Try.ntmps83
      go_wp2_with fail
      go_ret
      exact ⟨rfl, HS0.out.below⟩
    by_cases h3 : W ≤ x
    · go_enter Try.func83, Try.ntmps83
      go_wp2_with fail
      go_ret
      exact ⟨rfl, HS0.out.below⟩
    have h4 : H ≤ y := by omega
    clear hno
    go_enter Try.func83, Try.ntmps83
    go_wp2_with fail
    go_ret
    exact ⟨rfl, HS0.out.below⟩
  · obtain ⟨⟨b1, b2⟩, b3, b4⟩ := hasB_iff.1 hq
    obtain ⟨p0, p1⟩ := place_lt hq hn
    rw [if_pos rfl]
    have hb : (y * W).natAbs ≤ 64 * 64 := natb (by omega) (by omega)
    have hs0 : 0 ≤ y * W := Int.mul_nonneg b3 (by omega)
    have hs1 : y * W ≤ 4096 := by omega
    have e1 : IntKind.i64.wrap (y * W) = y * W := wrapn hb (by omega)
    obtain ⟨b, off, rfl, hy⟩ := HP.out.at' p0 p1
    have h1 : ¬ x < 0 := by omega
    have h2 : ¬ y < 0 := by omega
    have h3 : ¬ W ≤ x := by omega
    have h4 : ¬ H ≤ y := by omega
    clear hq hn HP hb
    generalize f (y * W + x).toNat = v at *
    obtain ⟨s, hs⟩ : ∃ s, y * W = s := ⟨_, rfl⟩
    have e1' : IntKind.i64.wrap (y * W) = s := by rw [e1, hs]
    rw [hs] at hy p0 p1 hs0 hs1
    clear e1 hs
    obtain ⟨t, ht⟩ : ∃ t, (s + x).toNat = t := ⟨_, rfl⟩
    rw [ht] at hy
    go_enter Try.func83, Try.ntmps83
    go_wp2_with fail
    go_ret
    exact ⟨rfl, HS0.out.below⟩

/-- a list with one number written anew -/
def updN (s : Nat → Int) (k : Nat) (v : Int) (q : Nat) : Int := if q = k then v else s q
/-- the first k numbers of F, then noughts -/
def hyb (F : Nat → Int) (k : Nat) (q : Nat) : Int := if q < k then F q else 0
theorem updN_hyb (F : Nat → Int) (k : Nat) : updN (hyb F k) k (F k) = hyb F (k + 1) := by
  funext q
  unfold updN hyb
  by_cases h : q = k
  · subst h; simp
  · by_cases h2 : q < k
    · rw [if_neg h, if_pos h2, if_pos (by omega)]
    · rw [if_neg h, if_neg h2, if_neg (by omega)]
theorem updN_upd (s : Nat → Int) (k : Nat) (u v : Int) : updN (updN s k u) k v = updN s k v := by
  funext q
  unfold updN
  split <;> rfl
theorem Row.updN {b n : Nat} {s : Nat → Int} {w : World} (h : Row b n s w) {k : Nat} (hk : k < n) (v : Int) : Row b n (updN s k v) (w.setCell ⟨b, k, none⟩ (.int .i64 v)) := fun q hq => by
  have h0 := h q hq
  refine ⟨?_, by simpa using h0.2⟩
  by_cases e : q = k
  · subst e
    rw [World.cell?_setCell_same _ _ _ (h q hq).1]
    unfold Go.Proofs.Ytlpfgmkkbplddaa.updN
    simp
  · rw [World.cell?_setCell_other _ _ _ _ (by simp; try omega)]
    unfold Go.Proofs.Ytlpfgmkkbplddaa.updN
    rw [if_neg e]
    exact h0.1
/-- an own list, one number of which is written -/
theorem St.upd {w0 : World} {L : List BoxT} {O : List OwnT} {w : World} {b n : Nat} {s : Nat → Int} (h : St w0 L ((some ⟨b, 0, none⟩, b, n, fun q => .int .i64 (s q)) :: O) w) {k : Nat} (hk : k < n) (v : Int) :
    St w0 L ((some ⟨b, 0, none⟩, b, n, fun q => .int .i64 (updN s k v q)) :: O) (w.setCell ⟨b, k, none⟩ (.int .i64 v)) := by
  have h0 : n ≠ 0 := by omega
  refine h.mark0 h0 ((Kept.refl b w).setCell rfl _) ?_
  rcases h.nthO 0 rfl with h1 | ⟨_, h1⟩
  · exact absurd h1 h0
  · exact (Row.updN h1 hk v).v
/-- a cell of an own list -/
theorem St.atO {w0 : World} {L : List BoxT} {O : List OwnT} {w : World} {b n : Nat} {s : Nat → Int} (h : St w0 L ((some ⟨b, 0, none⟩, b, n, fun q => .int .i64 (s q)) :: O) w) {k : Nat} (hk : k < n) :
    w.cell? ⟨b, k, none⟩ = some (.int .i64 (s k)) ∧ w.frozen? ⟨b, k, none⟩ = false := by
  rcases h.nthO 0 rfl with h1 | ⟨_, h1⟩
  · omega
  · exact h1 k hk

end Go.Proofs.Ytlpfgmkkbplddaa
