/- Distance, the specification: one line. -/
import Derived.Test.YtlpfgmkkbplddaaDnu
import Derived.Test.YtlpfgmkkbplddaaL2a
namespace Go.Proofs.Ytlpfgmkkbplddaa
open Go.RowKit

theorem Lst.bd {P : Nat → Bool} {d : Nat → Int} {n : Nat} {v : Int} (h : Lst P d n v) {M : Int} (hM : -1 ≤ M) (hd : ∀ k, k < n → d k ≤ M) : -1 ≤ v ∧ v ≤ M := by
  rcases h with ⟨h1, _⟩ | ⟨h1, ⟨k, h2, _, h4⟩, _⟩
  · omega
  · have := hd k h2; omega
theorem lnP_bd {g : Nat → Int} {n : Nat} (hn : n ≤ 64) (hg : ∀ k, k < n → -1 ≤ g k ∧ g k ≤ 5000) (i : Nat) (hi : i < n) (k : Nat) (hk : k ≤ n) :
    -1 ≤ lst (fun k => decide (0 ≤ g k)) (fun k => g k + sq ((i : Int) - k)) k ∧ lst (fun k => decide (0 ≤ g k)) (fun k => g k + sq ((i : Int) - k)) k ≤ 10000 := by
  refine (lst_ok (fun q _ h => by have := sq_nn ((i : Int) - q); simp at h; omega)).bd (by omega) (fun q hq => ?_)
  have h1 := sq_le (x := (i : Int) - q) (b := 64) (by omega) (by omega)
  have h2 := hg q (by omega)
  omega

set_option maxRecDepth 100000 in
set_option maxHeartbeats 2000000 in
theorem l8Line_any (a : Option Addr) (n cap : Nat) (g : Nat → Int) (hn : n ≤ 64) (hg : ∀ k, k < n → -1 ≤ g k ∧ g k ≤ 5000) (w : World) (h : Px a n g w) :
    Calls Try.prog 84 #[.slice a n cap] w (LsR n (lnF g n) w) := by
  have HP := hide h
  have HG := hide hg
  have HO0 : Hid ((w.alloc (.cells #[] 2)).ownsRow w.heap.size 2 1 (.slice (some ⟨w.heap.size, 0, none⟩) 0 0) 0 (ints (fl (lnF g n) 0))) := World.ownsRow_lit w #[] 0 (Nat.le_refl _) (by unfold maxLen; omega) rfl
  have HB0 := hide (bnew w (.cells #[] 2))
  clear h hg
  go_enter Try.func84, Try.ntmps84
  go_wp2_with fail
  go_loopw [3, 4, 5, 6, 7] (fun v i _ _ _ wr => ∃ k : Nat, k ≤ n ∧ i = .int .i64 k ∧ wr.ownsRow w.heap.size 2 1 v k (ints (fl (lnF g n) k)) ∧ Below w.heap.size w wr) (fun _ i _ _ _ _ => n - (intOf i).toNat)
  case atStart => exact ⟨0, by omega, rfl, HO0.out, HB0.out⟩
  case round =>
    obtain ⟨i, hi, rfl, ho, hb⟩ := hrel
    have HO := hide ho
    have HB := hide hb
    clear ho hb HO0 HB0
    by_cases hlt : i < n
    · have HPr := hide (HP.out.below HB.out)
      go_wp2_with fail
      go_loop [5, 6, 7] (fun b q _ => ∃ k : Nat, k ≤ n ∧ q = .int .i64 k ∧ b = .int .i64 (lst (fun k => decide (0 ≤ g k)) (fun k => g k + sq ((i : Int) - k)) k)) (fun _ q _ => n - (intOf q).toNat)
      case atStart => exact ⟨0, by omega, rfl, rfl⟩
      case round =>
        obtain ⟨k, hk, rfl, rfl⟩ := hrel
        have hlb := lnP_bd hn HG.out i hlt k hk
        by_cases hkn : k < n
        · obtain ⟨b, off, rfl, hc⟩ := HPr.out.at hkn
          have hgk := HG.out k hkn
          have hsq := sq_le (x := (i : Int) - k) (b := 64) (by omega) (by omega)
          have hsn := sq_nn ((i : Int) - k)
          have HE : Hid (lst (fun k => decide (0 ≤ g k)) (fun k => g k + sq ((i : Int) - k)) (k + 1) = if 0 ≤ g k then (if lst (fun k => decide (0 ≤ g k)) (fun k => g k + sq ((i : Int) - k)) k < 0 ∨ g k + sq ((i : Int) - k) < lst (fun k => decide (0 ≤ g k)) (fun k => g k + sq ((i : Int) - k)) k then g k + sq ((i : Int) - k) else lst (fun k => decide (0 ≤ g k)) (fun k => g k + sq ((i : Int) - k)) k) else lst (fun k => decide (0 ≤ g k)) (fun k => g k + sq ((i : Int) - k)) k) := by
            show _ = _
            rw [lst]
            simp only [decide_eq_true_eq]
          obtain ⟨Q, hQ⟩ : ∃ Q, sq ((i : Int) - k) = Q := ⟨_, rfl⟩
          have eQ : IntKind.i64.wrap (((i : Int) - k) * ((i : Int) - k)) = Q := by
            have : ((i : Int) - k) * ((i : Int) - k) = Q := hQ
            rw [this, IntKind.wrap_i64]; omega
          rw [hQ] at hsq hsn HE
          generalize lst (fun k => decide (0 ≤ g k)) (fun k => g k + sq ((i : Int) - k)) k = bst at *
          generalize hgk' : g k = gk at *
          clear HPr HP HG HO hQ hgk'
          by_cases h0 : gk < 0
          · rw [if_neg (by omega)] at HE
            go_wp2_with fail
            exact ⟨⟨k + 1, by omega, rfl, by rw [HE.out]⟩, by simp [intOf]; omega⟩
          · rw [if_pos (by omega)] at HE
            obtain ⟨D, hD⟩ : ∃ D, gk + Q = D := ⟨_, rfl⟩
            have eD : IntKind.i64.wrap (gk + Q) = D := by rw [hD, IntKind.wrap_i64]; omega
            rw [hD] at HE
            clear hD
            by_cases h1 : bst < 0
            · rw [if_pos (.inl h1)] at HE
              go_wp2_with fail
              exact ⟨⟨k + 1, by omega, rfl, by rw [HE.out]⟩, by simp [intOf]; omega⟩
            · by_cases h2 : D < bst
              · rw [if_pos (.inr h2)] at HE
                go_wp2_with fail
                exact ⟨⟨k + 1, by omega, rfl, by rw [HE.out]⟩, by simp [intOf]; omega⟩
              · rw [if_neg (by omega)] at HE
                go_wp2_with fail
                exact ⟨⟨k + 1, by omega, rfl, by rw [HE.out]⟩, by simp [intOf]; omega⟩
        · obtain rfl : k = n := by omega
          obtain ⟨Z, hZ⟩ : ∃ Z, lst (fun k => decide (0 ≤ g k)) (fun k => g k + sq ((i : Int) - k)) k = Z := ⟨_, rfl⟩
          have HZ : Hid (Z = lnF g k i) := hZ.symm
          rw [hZ]
          have HS := hide HB.out.size
          have HL : Hid (i ≤ 1048576) := by show _ ≤ _; omega
          clear hZ HPr HG hlb
          go_wp2_with (refine grow1 _ rfl _ _ rfl w.heap.size _ i (lnF g k) rfl w HO.out HB.out HS.out Z HZ.out rfl HL.out ?_)
          intro v' w' ho' hb' hs'
          have HO' := hide ho'
          have HB' := hide hb'
          clear HO HB HS ho' hb' hs'
          go_wp2_with fail
          exact ⟨⟨i + 1, by omega, rfl, HO'.out, HB'.out⟩, by simp [intOf]; omega⟩
    · obtain rfl : i = n := by omega
      obtain ⟨a', cap', b', rfl, ow, hB⟩ := ow_fl HO.out
      have HW := hide ow
      have HB1 := hide hB
      clear ow hB HO
      go_wp2_with fail
      go_ret
      exact ⟨a', cap', b', rfl, HW.out, HB1.out, HB.out⟩

end Go.Proofs.Ytlpfgmkkbplddaa
