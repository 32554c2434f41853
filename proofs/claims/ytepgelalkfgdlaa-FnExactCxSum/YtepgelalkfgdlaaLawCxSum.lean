/- The law FnExactCxSum, walked. -/
import Derived.Test.YtepgelalkfgdlaaSum3
namespace Go.Proofs.Ytepgelalkfgdlaa
open Ieee Go.RowKit
attribute [local go_sem] run_store_float alloc_drewN setCell_drewN shape?_drewN

theorem total_same {re im : Nat → Nat} {n r s r' s' : Nat} (h : if 4096 < n then r = 0 ∧ s = 0 else Halves re 0 n r ∧ Halves im 0 n s) (h' : if 4096 < n then r' = 0 ∧ s' = 0 else Halves re 0 n r' ∧ Halves im 0 n s') : same r r' ∧ same s s' := by
  by_cases hn : 4096 < n
  · rw [if_pos hn] at h h'
    obtain ⟨rfl, rfl⟩ := h
    obtain ⟨rfl, rfl⟩ := h'
    exact ⟨same_rfl _, same_rfl _⟩
  · rw [if_neg hn] at h h'
    exact ⟨h.1.same h'.1, h.2.same h'.2⟩

set_option maxHeartbeats 1000000 in
theorem fnExactCxSum_walk (a : Option Addr) (len cap : Nat) (re im : Nat → Nat) (hl : len ≤ maxLen) (w : World) (h : Cs a len re im w) :
    Calls Try.prog 16 #[.slice a len cap] w fun e w' => e = .returned (.bool true) ∧ Below w.heap.size w w' := by
  unfold maxLen at hl
  have hz := size_any a len cap (by omega)
  have HC : Hid (Cs a len re im w) := h
  clear h
  by_cases hlen : 1048576 < (len : Int)
  · have hz' := hz
    rw [if_pos hlen] at hz'
    clear hz hlen hl
    go_enter Try.func16, Try.ntmps16
    go_wp2_with fail
    refine (hz' _).mono ?_
    rintro e w' ⟨rfl, rfl⟩
    go_wp2_with fail
    go_ret
    exact ⟨rfl, Below.refl _ _⟩
  · have hz' := hz
    rw [if_neg hlen] at hz'
    have hl2 : len ≤ 1048576 := by omega
    have hn : ¬ 1048576 - (len : Int) < 0 := by omega
    have ht := fun w' h => toCxS_any a len cap re im hl2 w' h
    have hs := fun b w' h => specSum_any (some ⟨b, 0, none⟩) len len re im hl2 w' h
    have hi := fun b w' h => implSum_any (some ⟨b, 0, none⟩) len len re im hl2 (Nat.le_refl _) (by omega) w' h
    have he := fun b b' w' h h' => eqCxS_any (some ⟨b, 0, none⟩) (some ⟨b', 0, none⟩) len len len re im hl2 w' h h'
    clear hz hlen hl
    go_enter Try.func16, Try.ntmps16
    go_wp2_with fail
    refine (hz' _).mono ?_
    rintro e w' ⟨rfl, rfl⟩
    clear hz'
    go_wp2_with fail
    refine (ht _ HC.out).mono ?_
    rintro e w1 ⟨rfl, hc1, hb1⟩
    go_wp2_with fail
    refine (hs _ _ hc1).mono ?_
    rintro e w2 ⟨r, s, rfl, hrs, hb2⟩
    have B2 := Below.next (Below.next (Below.next (Below.refl w'.heap.size w') (Nat.le_refl _) hb1) (Nat.le_refl _) hb2) (Nat.le_refl _) (below_new w2 (.cells #[.float .f64 r, .float .f64 s] 39))
    have HB2 : Hid (Below w'.heap.size w' (w2.alloc (.cells #[.float .f64 r, .float .f64 s] 39))) := B2
    have HT : Hid (if 4096 < len then r = 0 ∧ s = 0 else Halves re 0 len r ∧ Halves im 0 len s) := hrs
    have HP2 : Hid (P2 w2.heap.size r s (w2.alloc (.cells #[.float .f64 r, .float .f64 s] 39))) := P2.new _ _ _ _
    clear hb1 hb2 hc1 hrs B2 hs
    go_wp2_with fail
    refine (ht _ (HC.out.below HB2.out)).mono ?_
    rintro e w3 ⟨rfl, hc3, hb3⟩
    have HB3 : Hid (Below w'.heap.size w' w3) := Below.next HB2.out (Nat.le_refl _) hb3
    have HP3 : Hid (P2 w2.heap.size r s w3) := HP2.out.below hb3
    have hc3' : Cs (some ⟨w2.heap.size + 1, 0, none⟩) len re im w3 := by simpa using hc3
    have HC3 : Hid (Cs (some ⟨w2.heap.size + 1, 0, none⟩) len re im w3) := hc3'
    clear hb3 hc3 hc3' HB2 HP2
    go_wp2_with fail
    refine (hi _ _ HC3.out).mono ?_
    rintro e w4 ⟨r', s', rfl, hrs, hb4⟩
    have hsm := total_same hrs HT.out
    have hbn := below_new w4 (.cells #[.float .f64 r', .float .f64 s'] 39)
    have HB4 : Hid (Below w'.heap.size w' (w4.alloc (.cells #[.float .f64 r', .float .f64 s'] 39))) := Below.next (Below.next HB3.out (Nat.le_refl _) hb4) (Nat.le_refl _) hbn
    have HC4 : Hid (Cs (some ⟨w2.heap.size + 1, 0, none⟩) len re im (w4.alloc (.cells #[.float .f64 r', .float .f64 s'] 39))) := (HC3.out.below hb4).below hbn
    obtain ⟨p0, p1, _, _⟩ := (HP3.out.below hb4).below hbn
    obtain ⟨q0, q1, _, _⟩ := P2.new r' s' 39 w4
    have hq := eqCx_any _ _ _ _ hsm.1 hsm.2
    clear hrs hb4 hsm hbn HB3 HP3 HC3 hi HT
    go_wp2_with fail
    refine (hq _).mono ?_
    rintro e w5 ⟨rfl, hb5⟩
    have HB5 : Hid (Below w'.heap.size w' w5) := Below.next HB4.out (Nat.le_refl _) hb5
    have HC5 : Hid (Cs (some ⟨w2.heap.size + 1, 0, none⟩) len re im w5) := HC4.out.below hb5
    clear hb5 HB4 HC4 p0 p1 q0 q1 hq
    go_wp2_with fail
    refine (ht _ (HC.out.below HB5.out)).mono ?_
    rintro e w6 ⟨rfl, hc6, hb6⟩
    have HB6 : Hid (Below w'.heap.size w' w6) := Below.next HB5.out (Nat.le_refl _) hb6
    have hc5 := HC5.out.below hb6
    have hq := he _ _ _ hc5 hc6
    clear hb6 hc6 hc5 HB5 HC5 ht he
    go_wp2_with fail
    refine hq.mono ?_
    rintro e w7 ⟨rfl, hb7⟩
    have HB7 : Hid (Below w'.heap.size w' w7) := Below.next HB6.out (Nat.le_refl _) hb7
    clear hb7 hq HB6
    go_wp2_with fail
    go_ret
    exact ⟨rfl, HB7.out⟩

end Go.Proofs.Ytepgelalkfgdlaa
