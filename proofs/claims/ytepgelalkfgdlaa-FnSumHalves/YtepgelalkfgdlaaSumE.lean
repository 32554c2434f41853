/- What the law FnSumHalves stands on: one value is one value, halves of a list that was cut, the copy of a piece. -/
import Derived.Test.YtepgelalkfgdlaaOrdC
import Derived.Test.YtepgelalkfgdlaaSumD2
namespace Go.Proofs.Ytepgelalkfgdlaa
open Ieee Go.RowKit Fl
attribute [local go_sem] run_store_float alloc_drewN setCell_drewN shape?_drewN

theorem okey_same {a b : Nat} (h : same a b) : okey a = okey b := by
  rcases h with rfl | ⟨h1, h2⟩
  · rfl
  · rw [okey_nan h1, okey_nan h2]

theorem l1SameT (a b : Nat) (hs : same a b) (w : World) :
    Calls Try.prog 70 #[.float .f64 a, .float .f64 b] w fun e w' => e = .returned (.bool true) ∧ w' = w := by
  have h := order_spec a b
  have hc : cmpI (okey a) (okey b) = 0 := by rw [okey_same hs]; unfold cmpI; rw [if_neg (by omega), if_neg (by omega)]
  rw [hc] at h
  clear hc hs
  go_enter Try.func70, Try.ntmps70
  go_wp2_with fail
  refine (h _).mono ?_
  rintro e w' ⟨rfl, rfl⟩
  go_wp2_with fail
  go_ret
  exact ⟨rfl, rfl⟩

theorem cxSameT (a b c d : Nat) (h1 : same a c) (h2 : same b d) (w : World) :
    Calls Try.prog 33 #[cx a b, cx c d] w fun e w' => e = .returned (.bool true) ∧ Below w.heap.size w w' := by
  have k1 := l1SameT a c h1
  have k2 := l1SameT b d h2
  have hB : Below w.heap.size w ((w.alloc (cell39 a b)).alloc (cell39 c d)) := by go_grown
  have HB : Hid (Below w.heap.size w ((w.alloc (cell39 a b)).alloc (cell39 c d))) := hB
  clear h1 h2 hB
  go_enter Try.func33, Try.ntmps33
  go_wp2_with fail
  refine (k1 _).mono ?_
  rintro e w' ⟨rfl, rfl⟩
  go_wp2_with fail
  refine (k2 _).mono ?_
  rintro e w' ⟨rfl, rfl⟩
  go_wp2_with fail
  go_ret
  exact ⟨rfl, HB.out⟩

theorem Halves.congr {f g : Nat → Nat} {i n r : Nat} (h : Halves f i n r) (hf : ∀ k, i ≤ k → k < i + n → f k = g k) : Halves g i n r := by
  induction h with
  | none i => exact .none i
  | one i => rw [hf i (by omega) (by omega)]; exact .one i
  | more i n a b r hn _ _ h3 ih1 ih2 =>
    exact .more i n a b r hn (ih1 fun k hk1 hk2 => hf k hk1 (by omega)) (ih2 fun k hk1 hk2 => hf k (by omega) (by omega)) h3

theorem Halves.shift {f g : Nat → Nat} {d i n r : Nat} (h : Halves g i n r) (hg : ∀ k, g k = f (d + k)) : Halves f (d + i) n r := by
  induction h with
  | none i => exact .none _
  | one i => rw [hg i]; exact .one _
  | more i n a b r hn _ _ h3 ih1 ih2 =>
    refine .more _ n a b r hn ih1 ?_ h3
    rw [Nat.add_assoc]; exact ih2

theorem Halves.of_one {f : Nat → Nat} {i r : Nat} (h : Halves f i 1 r) : r = f i := by
  cases h with
  | one => rfl
  | more _ _ _ _ hn => omega

/-- pairs as cells, one behind the other -/
def pairs (re im : Nat → Nat) (n : Nat) : List Value := (List.range (n * 2)).map fun j => .float .f64 (if j % 2 = 0 then re (j / 2) else im (j / 2))

theorem pairs_length (re im : Nat → Nat) (n : Nat) : (pairs re im n).length = n * 2 := by simp [pairs]
theorem pairs_at (re im : Nat → Nat) (n j : Nat) (h : j < n * 2) : (pairs re im n)[j]? = some (.float .f64 (if j % 2 = 0 then re (j / 2) else im (j / 2))) := by
  simp [pairs, h]

theorem cs_of_pairs {w : World} {base n : Nat} {v : Value} {re im : Nat → Nat} (h : w.ownsRow base 39 2 v n (pairs re im n)) (hn : 0 < n) :
    ∃ a cap, v = .slice a n cap ∧ n ≤ cap ∧ cap ≤ maxLen ∧ Cs a n re im w := by
  have h' := h
  obtain ⟨hlen, hv | ⟨g, cap, cur, hv, hg, hcur, hnc, hm, _, _⟩⟩ := h'
  · omega
  · subst hv
    refine ⟨some ⟨g, 0, none⟩, cap, rfl, hnc, hm, .inr ⟨g, 0, rfl, fun k hk => ?_⟩⟩
    rw [Nat.zero_add, h.cellAt (k * 2) (by omega), h.cellAt (k * 2 + 1) (by omega), pairs_at _ _ _ _ (by omega), pairs_at _ _ _ _ (by omega)]
    rw [if_pos (by omega), if_neg (by omega), show k * 2 / 2 = k from by omega, show (k * 2 + 1) / 2 = k from by omega]
    exact ⟨rfl, rfl⟩

/-- the cells of a piece of a list -/
theorem piece_cells {b off len : Nat} {re im : Nat → Nat} {w : World} (h : Cs (some ⟨b, off, none⟩) len re im w) (i n : Nat) (hi : i + n ≤ len) :
    ∀ (j : Nat) (u : Value), (pairs (fun k => re (i + k)) (fun k => im (i + k)) n)[j]? = some u → w.cell? ((⟨b, off + i * 2, none⟩ : Addr).add j) = some u := by
  intro j u hu
  have hj : j < n * 2 := by
    have := (List.getElem?_eq_some_iff.1 hu).1
    rw [pairs_length] at this
    exact this
  rw [pairs_at _ _ _ _ hj] at hu
  obtain rfl := Option.some.inj hu
  rw [WideShapes.add_plain]
  obtain ⟨_, _, hs, h0, h1⟩ := h.at (k := i + j / 2) (by omega)
  cases hs
  by_cases hp : j % 2 = 0
  · rw [if_pos hp, show off + i * 2 + j = off + (i + j / 2) * 2 from by omega]; exact h0
  · rw [if_neg hp, show off + i * 2 + j = off + (i + j / 2) * 2 + 1 from by omega]; exact h1

theorem pairs_one (re im : Nat → Nat) (n : Nat) : ∀ u ∈ pairs re im n, u.oneCell' = true := by
  intro u hu
  simp only [pairs, List.mem_map] at hu
  obtain ⟨j, _, rfl⟩ := hu
  rfl

end Go.Proofs.Ytepgelalkfgdlaa
