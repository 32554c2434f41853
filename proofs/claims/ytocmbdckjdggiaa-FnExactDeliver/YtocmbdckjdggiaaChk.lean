/- The library's Chunk over lists of numbers. -/
import Derived.Test.YtocmbdckjdggiaaRfv
import Derived.Lib.MinMax
namespace Go.Proofs.Ytocmbdckjdggiaa
open Go.RowKit Go.Shelf

attribute [local go_sem] Oper.semAt_some

theorem OwnFrom.drew {β : Type} {B : Nat} {I : β → World → Prop} (h : OwnFrom B I) {s : β} {W : World} (hs : I s W) : I s W.drew := h s W _ none hs ⟨rfl, rfl, rfl, Nat.le_refl _, fun _ _ _ => rfl⟩ (fun r e => by cases e)
/-- the first k chunks of n -/
def chL (b off n : Nat) : Nat → List Value
  | 0 => []
  | k + 1 => chL b off n k ++ [.slice (some ⟨b, off + k * n, none⟩) n n]
theorem chL_len (b off n : Nat) : ∀ k, (chL b off n k).length = k
  | 0 => rfl
  | k + 1 => by simp [chL, chL_len b off n k]
theorem chL_prefix (b off n : Nat) {V : Nat} : ∀ {k : Nat}, k ≤ V → chL b off n k <+: chL b off n V := by
  induction V with
  | zero => intro k hk; obtain rfl : k = 0 := (by omega); exact List.prefix_refl _
  | succ V ih =>
    intro k hk
    by_cases e : k = V + 1
    · subst e; exact List.prefix_refl _
    · exact (ih (by omega)).trans ⟨_, rfl⟩
theorem chL_of_prefix {b off n V : Nat} {pre : List Value} {x : Value} (h : (pre ++ [x]) <+: chL b off n V) : pre.length < V ∧ x = .slice (some ⟨b, off + pre.length * n, none⟩) n n := by
  have hl := h.length_le
  rw [chL_len] at hl
  simp at hl
  have h2 := chL_prefix b off n (show pre.length + 1 ≤ V by omega)
  have h3 := List.prefix_of_prefix_length_le h h2 (by rw [chL_len]; simp)
  have h4 := h3.eq_of_length (by rw [chL_len]; simp)
  have h5 : pre ++ [x] = chL b off n pre.length ++ [.slice (some ⟨b, off + pre.length * n, none⟩) n n] := h4
  obtain ⟨h6, h7⟩ := List.append_inj' h5 rfl
  exact ⟨by omega, by simpa using h7⟩

set_option maxRecDepth 100000 in
theorem chunk_any (a : Option Addr) (m cap n : Nat) (hn : 0 < n) (w : World) :
    Calls Try.prog 75 #[.slice a m cap, .int .i64 n] w fun e w' => e = .returned (.func (.func 90) #[] #[.pointer (some ⟨w.heap.size, 0, none⟩), .pointer (some ⟨w.heap.size + 1, 0, none⟩)]) ∧ w' = (w.alloc (.cells #[.slice a m cap] 24)).alloc (.cells #[.int .i64 n] 3) := by
  have h1 : ¬ (n : Int) < 1 := by omega
  go_enter Try.func75, Try.ntmps75
  go_wp2
  go_ret
  exact ⟨by simp, rfl⟩

set_option maxRecDepth 100000 in
set_option maxHeartbeats 4000000 in
theorem chunk_gw (a : Option Addr) (b off m cap n V Bs Bn : Nat) (ha : 0 < m → a = some ⟨b, off, none⟩) (hmV : m = V * n) (hn : 0 < n) (hl : m ≤ 1048576) (hcap : m ≤ cap) (hnb : n ≤ 64) (S : Nat → Prop) (w : World) (hs : w.cell? ⟨Bs, 0, none⟩ = some (.slice a m cap)) (hN : w.cell? ⟨Bn, 0, none⟩ = some (.int .i64 n)) (hS1 : S Bs) (hS2 : S Bn) :
    Gw Try.prog 90 #[.pointer (some ⟨Bs, 0, none⟩), .pointer (some ⟨Bn, 0, none⟩)] (chL b off n V) S w := by
  intro l J W hb hJ hY h0
  have hsW := (hb.cell (p := ⟨Bs, 0, none⟩) (World.block_lt_of_cell? w _ hs)).trans hs
  have hNW := (hb.cell (p := ⟨Bn, 0, none⟩) (World.block_lt_of_cell? w _ hN)).trans hN
  have HM := hide hmV
  clear hs hN hb hmV
  refine (callsIn_wide (n := 3)).1 ?_
  refine callsIn_of_wp Try.func90 rfl trivial ?_ rfl
  simp only [Try.ntmps90, List.size_toArray, List.length_cons, List.length_nil, Nat.reduceAdd, Nat.reduceSub, Array.replicate_succ, Array.replicate_zero, List.push_toArray, List.append_toArray, List.nil_append, List.cons_append]
  gi_wp2
  gi_loopw [4, 5] (fun i _ wr => ∃ k : Nat, k ≤ V ∧ i = .int .i64 (k * n : Nat) ∧ J (chL b off n k) wr ∧ KS S W wr) (fun i _ _ => m - (intOf i).toNat)
  case atStart => exact ⟨0, Nat.zero_le _, by simp, h0, KS.refl _ _⟩
  case round =>
    obtain ⟨k, hk, rfl, hJs, hnx⟩ := hrel
    have s1 := hnx.cell (p := ⟨Bs, 0, none⟩) hS1 hsW
    have s2 := hnx.cell (p := ⟨Bn, 0, none⟩) hS2 hNW
    have hm := HM.out
    by_cases hlt : k < V
    · have h1 : k * n + n ≤ m := by
        rw [hm]
        have : (k + 1) * n ≤ V * n := Nat.mul_le_mul_right n (by omega)
        have h4 : (k + 1) * n = k * n + n := by rw [Nat.add_mul, Nat.one_mul]
        omega
      obtain rfl := ha (by omega)
      obtain ⟨fn, tmps, assign, body, hy, hR⟩ := YieldAt.any (3 - 1) (hY _ (.slice (some ⟨b, off + k * n, none⟩) n n) wr.drew (OwnFrom.drew hJ hJs) (chL_prefix b off n (show k + 1 ≤ V by omega)))
      have HK1 : Hid (((k + 1) * n : Nat) = k * n + n) := by show _ = _; rw [Nat.add_mul, Nat.one_mul]
      have HCh : Hid (chL b off n (k + 1) = chL b off n k ++ [.slice (some ⟨b, off + k * n, none⟩) n n]) := rfl
      clear hY hm hsW hNW
      obtain ⟨P, hP⟩ : ∃ P, k * n = P := ⟨_, rfl⟩
      rw [hP] at h1 hy hR HK1 HCh ⊢
      have hpm : P < m := by omega
      have hpc : P < cap := by omega
      have hpm' : (P : Int) < (m : Int) := by omega
      have hmin : min (n : Int) ((m - P : Nat) : Int) = (n : Int) := by omega
      have hmin2 : min (n : Int) ((m : Int) - (P : Int)) = (n : Int) := by omega
      have hpn : P + n ≤ cap := by omega
      gi_wp2
      gi_region_with (fail)
      all_goals
        gi_wp2
        refine hR.mono ?_
        rintro e W3 ⟨rfl, hJ3, hk3⟩
        have s3 := ((KS.drew wr).trans hk3).cell (p := ⟨Bn, 0, none⟩) hS2 s2
        clear s1 s2
        gi_wp2
        go_roundw
        case rel => exact ⟨k + 1, by omega, by rw [HK1.out]; simp, by rw [HCh.out]; exact hJ3, hnx.trans ((KS.drew wr).trans hk3)⟩
        case measure => simp [intOf]; omega
    · obtain rfl : k = V := by omega
      have hge : ¬ ((k * n : Nat) : Int) < (m : Int) := by rw [← hm]; omega
      clear hY hm
      generalize k * n = P at *
      gi_wp2
      go_end0
      exact ⟨⟨_, rfl⟩, hJs⟩

end Go.Proofs.Ytocmbdckjdggiaa
