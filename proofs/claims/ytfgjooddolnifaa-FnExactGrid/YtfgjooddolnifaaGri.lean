/- Gridding: the program. -/
import Derived.Test.YtfgjooddolnifaaGrd
namespace Go.Proofs.Ytfgjooddolnifaa
open Ieee Go.RowKit
attribute [local go_sem] run_store_float alloc_drewN setCell_drewN shape?_drewN

/-- one spot -/
def gst (n : Nat) (A : Int) (v0 v1 : Nat) (g : Nat → Nat) : Nat → Nat := ash n (A / 16 + 1) v0 v1 (A % 16) (ash n (A / 16) v0 v1 (16 - A % 16) g)
/-- the places behind i spots -/
def gridF (n : Nat) (A : Nat → Int) (F : Nat → Nat) : Nat → Nat → Nat
  | 0 => fun _ => 0
  | i + 1 => gst n (A i) (F (i * 2)) (F (i * 2 + 1)) (gridF n A F i)
def gridN (n : Int) (len : Nat) : Nat := if inB n 1 4096 = true ∧ len ≤ 4096 then n.toNat else 0
def gridP (n : Int) (A : Nat → Int) (F : Nat → Nat) (len k r : Nat) : Prop := same r (gridF n.toNat A F len k)
theorem gridP_same {n : Int} {A : Nat → Int} {F : Nat → Nat} {len k r r' : Nat} (h : gridP n A F len k r) (h' : gridP n A F len k r') : same r r' := same.trans h (same.symm h')
theorem shr4 (x : Int) : x >>> 4 = x / 16 := by rw [Int.shiftRight_eq_div_pow]; rfl

set_option maxRecDepth 100000 in
set_option maxHeartbeats 1000000 in
theorem implGrid_any (n : Int) (a : Option Addr) (len cap : Nat) (A : Nat → Int) (F : Nat → Nat) (hA : ∀ k, -9223372036854775808 ≤ A k ∧ A k ≤ 9223372036854775807) (hl : len ≤ 1048576) (w : World) (h : PxV a (len * 3) (spv A F) w) :
    Calls Try.prog 34 #[.int .i64 n, .slice a len cap] w (LsP (gridN n len) (gridN n len * 2) (gridP n A F len) w) := by
  have hI := n_within_any n 1 4096
  unfold gridN
  by_cases hn : inB n 1 4096 = true
  · by_cases hm : 4096 < len
    · rw [if_neg (by omega)]
      rw [hn] at hI
      clear h hn hA
      go_enter Try.func34, Try.ntmps34
      go_wp2_with fail
      refine (hI _).mono ?_
      rintro e w1 ⟨rfl, rfl⟩
      go_wp2_with fail
      go_ret
      exact ⟨_, _, 0, fun _ => 0, rfl, .inl rfl, .inl rfl, Below.refl _ _, fun j hj => absurd hj (Nat.not_lt_zero _)⟩
    · rw [if_pos ⟨hn, by omega⟩]
      rw [hn] at hI
      have hn2 : 1 ≤ n ∧ n ≤ 4096 := by unfold inB at hn; simp at hn; exact hn
      obtain ⟨m, rfl⟩ : ∃ m : Nat, n = m := ⟨n.toNat, by omega⟩
      unfold gridP
      rw [Int.toNat_natCast]
      have hm1 : 1 ≤ m := by omega
      have hm2 : m ≤ 4096 := by omega
      have hmk := make_cs m (by omega) w
      have HP := hide h
      have HA := hide hA
      clear h hn hA hn2
      go_enter Try.func34, Try.ntmps34
      go_wp2_with fail
      refine (hI _).mono ?_
      rintro e w1 ⟨rfl, rfl⟩
      clear hI
      go_wp2_with fail
      go_loopw [7, 8, 9, 22] (fun _ _ _ i wr => ∃ k : Nat, k ≤ len ∧ i = .int .i64 k ∧ GR w1.heap.size (m * 2) (gridF m A F k) wr ∧ Below w1.heap.size w1 wr ∧ w1.heap.size < wr.heap.size) (fun _ _ _ i _ => len - (intOf i).toNat)
      case atStart => exact ⟨0, by omega, rfl, fun j hj => ⟨⟨0, ((rowC_new (m * 2) 34 w1) j hj).1, fun _ => same_rfl _⟩, ((rowC_new (m * 2) 34 w1) j hj).2⟩, bnew _ _, by simp⟩
      case round =>
        obtain ⟨k, hk, rfl, hp, hb, hs⟩ := hrel
        clear hmk
        by_cases hlt : k < len
        · obtain ⟨b, off, rfl, hbl, hz, hz', hz''⟩ := (HP.out.below hb).spot hlt
          obtain ⟨hA1, hA2⟩ := HA.out k
          have hM := n_modulo_any (A k) 16 (by omega) (by omega)
          have h4 := shr4 (A k)
          have m1 : 0 ≤ A k % 16 := by omega
          have m2 : A k % 16 ≤ 15 := by omega
          have c1 := fun w' hg hb' => addShare_any w1.heap.size m (A k / 16) (F (k * 2)) (F (k * 2 + 1)) (16 - A k % 16) (gridF m A F k) hm2 hm1 (by omega) (by omega) w' hg hb'
          have c2 := fun w' hg hb' => addShare_any w1.heap.size m (A k / 16 + 1) (F (k * 2)) (F (k * 2 + 1)) (A k % 16) (ash m (A k / 16) (F (k * 2)) (F (k * 2 + 1)) (16 - A k % 16) (gridF m A F k)) hm2 hm1 (by omega) (by omega) w' hg hb'
          have hgk : gridF m A F (k + 1) = ash m (A k / 16 + 1) (F (k * 2)) (F (k * 2 + 1)) (A k % 16) (ash m (A k / 16) (F (k * 2)) (F (k * 2 + 1)) (16 - A k % 16) (gridF m A F k)) := rfl
          have HGK := hide hgk
          have hbx := (bnew wr (.cells #[.int .i64 (A k), .float .f64 (F (k * 2)), .float .f64 (F (k * 2 + 1))] 72)).drew
          have HG := hide (hp.below hbx hs)
          have HB := hide (bnext hb (Nat.le_refl _) hbx)
          have HS : Hid (w1.heap.size < ((wr.alloc (.cells #[.int .i64 (A k), .float .f64 (F (k * 2)), .float .f64 (F (k * 2 + 1))] 72)).drew).heap.size) := Nat.lt_of_lt_of_le hs hbx.size
          clear HP HA hp hb hgk hbx
          go_wp2_with fail
          go_region_with (go_at_call 54; refine (hM _).mono ?_; rintro e w2 ⟨rfl, rfl⟩)
          all_goals
            clear hM hz hz' hz''
            go_wp2_with fail
            refine (c1 _ HG.out HS.out).mono ?_
            rintro e w3 ⟨rfl, hg3, hk3⟩
            have d1 : w3.cell? ⟨wr.heap.size, 1, none⟩ = some (.float .f64 (F (k * 2))) := hk3.cell (by show wr.heap.size ≠ _; omega) (by simp [go_sem])
            have d2 : w3.cell? ⟨wr.heap.size, 2, none⟩ = some (.float .f64 (F (k * 2 + 1))) := hk3.cell (by show wr.heap.size ≠ _; omega) (by simp [go_sem])
            have HG3 := hide hg3
            have HB3 := hide (HB.out.trans (hk3.below (Nat.le_refl _) (Nat.le_of_lt HS.out)))
            have HS3 : Hid (w1.heap.size < w3.heap.size) := Nat.lt_of_lt_of_le HS.out hk3.size
            clear hg3 hk3 HG HB HS c1
            go_wp2_with fail
            refine (c2 _ HG3.out HS3.out).mono ?_
            rintro e w4 ⟨rfl, hg4, hk4⟩
            have HG4 := hide hg4
            have HB4 := hide (HB3.out.trans (hk4.below (Nat.le_refl _) (Nat.le_of_lt HS3.out)))
            have HS4 : Hid (w1.heap.size < w4.heap.size) := Nat.lt_of_lt_of_le HS3.out hk4.size
            clear hg4 hk4 HG3 HB3 HS3 c2 d1 d2
            go_wp2_with fail
            exact ⟨⟨k + 1, by omega, rfl, by rw [HGK.out]; exact HG4.out, HB4.out, HS4.out⟩, by simp [intOf]; omega⟩
        · obtain rfl : k = len := by omega
          clear HP HA
          go_wp2
          go_ret
          obtain ⟨r, hr, hP⟩ := PartP.row hp
          exact ⟨_, _, w1.heap.size, r, rfl, hr.ow, .inr (Nat.le_refl _), hb, hP⟩
  · rw [if_neg (fun h => hn h.1)]
    have hn' : inB n 1 4096 = false := by simpa using hn
    rw [hn'] at hI
    clear h hn hA hn'
    go_enter Try.func34, Try.ntmps34
    go_wp2_with fail
    refine (hI _).mono ?_
    rintro e w1 ⟨rfl, rfl⟩
    go_wp2_with fail
    go_ret
    exact ⟨_, _, 0, fun _ => 0, rfl, .inl rfl, .inl rfl, Below.refl _ _, fun j hj => absurd hj (Nat.not_lt_zero _)⟩

end Go.Proofs.Ytfgjooddolnifaa
