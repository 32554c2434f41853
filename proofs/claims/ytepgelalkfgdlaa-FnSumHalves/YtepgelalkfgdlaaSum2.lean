/- The sum in halves of the program, over slices that are cut. -/
import Derived.Test.YtepgelalkfgdlaaSum1
import Derived.Deep.DeepCutAuto
namespace Go.Proofs.Ytepgelalkfgdlaa
open Ieee Go.RowKit
attribute [local go_sem] run_store_float run_cadd alloc_drewN setCell_drewN shape?_drewN

/-- what the native sum in halves answers -/
def NSums (re im : Nat → Nat) (i n : Nat) (w : World) (e : Ending) (w' : World) : Prop :=
  ∃ r s, e = .returned (.complex .f64 r s) ∧ Halves re i n r ∧ Halves im i n s ∧ Below w.heap.size w w'

theorem sumIn_none (a : Option Addr) (cap : Nat) (re im : Nat → Nat) (i : Nat) (w : World) : Calls Try.prog 79 #[.slice a 0 cap] w (NSums re im i 0 w) := by
  go_enter Try.func79, Try.ntmps79
  go_wp2_with fail
  go_ret
  exact ⟨0, 0, rfl, .none _, .none _, Below.refl _ _⟩

set_option maxHeartbeats 1000000 in
theorem sumIn_any (b off len : Nat) (re im : Nat → Nat) (hl : len ≤ 1048576) : ∀ (n i cap : Nat) (w : World), 1 ≤ n → i + n ≤ len → n ≤ cap → cap ≤ 9223372036854775807 → Cs (some ⟨b, off, none⟩) len re im w →
    Calls Try.prog 79 #[.slice (some ⟨b, off + i * 2, none⟩) n cap] w (NSums re im i n w) := by
  intro n
  induction n using Nat.strongRecOn with
  | _ n ih =>
  intro i cap w hn hi hcap hmax h
  by_cases h1 : n = 1
  · subst h1
    obtain ⟨_, _, hs, hz, hz'⟩ := h.at (k := i) (by omega)
    cases hs
    have hbl : b < w.heap.size := World.block_lt_of_cell? w ⟨b, off + i * 2, none⟩ hz
    clear ih h hi
    go_enter Try.func79, Try.ntmps79
    go_wp2_with fail
    refine (toNative_exact _ _ _).mono ?_
    rintro e w1 ⟨rfl, rfl⟩
    go_wp2_with fail
    go_ret
    exact ⟨_, _, rfl, .one _, .one _, below_new _ _⟩
  have hh : n / 2 < n := by omega
  have hh' : n - n / 2 < n := by omega
  have n0 : ((n : Int) == 0) = false := by simp; omega
  have n1 : ((n : Int) == 1) = false := by simp; omega
  have c1 := fun w' hc => ih (n / 2) hh i (n / 2) w' (by omega) (by omega) (Nat.le_refl _) (by omega) hc
  have c2 : ∀ (w' : World) (x p q : Nat), x = off + (i + n / 2) * 2 → p = n - n / 2 → q = n - n / 2 → Cs (some ⟨b, off, none⟩) len re im w' → Calls Try.prog 79 #[.slice (some ⟨b, x, none⟩) p q] w' (NSums re im (i + n / 2) (n - n / 2) w') :=
    fun w' x p q hx hp hq hc => by subst hx hp hq; exact ih (n - n / 2) hh' (i + n / 2) (n - n / 2) w' (by omega) (by omega) (Nat.le_refl _) (by omega) hc
  have HC : Hid (Cs (some ⟨b, off, none⟩) len re im w) := h
  have hn2 : 2 ≤ n := by omega
  clear ih h hh hh'
  go_enter Try.func79, Try.ntmps79
  go_upto_region 7 with fail
  have HD : Hid (Cs (some ⟨b, off, none⟩) len re im w.drew) := HC.out
  go_region_with (first
    | (go_at_call 79; (with_reducible refine (c1 _ HD.out).mono ?_); rintro e w1 ⟨r1, s1, rfl, hr1, hs1, hb1⟩; have HC1 : Hid (Cs (some ⟨b, off, none⟩) len re im w1) := HD.out.below hb1)
    | (go_at_call 79; (with_reducible refine (c2 _ _ _ _ (by omega) (by omega) (by omega) HC1.out).mono ?_); rintro e w2 ⟨r2, s2, rfl, hr2, hs2, hb2⟩))
  all_goals
    have HR : Hid (Halves re i n (fval .add r1 r2 w2)) := .more i n r1 r2 _ hn2 hr1 hr2 (fval_res _ _ _ _)
    have HS : Hid (Halves im i n (fval .add s1 s2 (w2.drewN (fcnt .add r1 r2)))) := .more i n s1 s2 _ hn2 hs1 hs2 (fval_res _ _ _ _)
    have HB : Hid (Below w.heap.size w w2) := Below.next (Below.next (Below.refl _ _).drew (Nat.le_refl _) hb1) (Nat.le_refl _) hb2
    clear hr1 hr2 hs1 hs2 hb1 hb2 HC1 HD HC c1 c2
    go_wp2_with fail
    go_ret
    exact ⟨_, _, rfl, HR.out, HS.out, below_drewN HB.out _⟩

/-- what CxSum answers -/
def Total (re im : Nat → Nat) (n : Nat) (w : World) (e : Ending) (w' : World) : Prop :=
  ∃ r s, e = .returned (cx r s) ∧ (if 4096 < n then r = 0 ∧ s = 0 else Halves re 0 n r ∧ Halves im 0 n s) ∧ Below w.heap.size w w'

theorem specSum_any (a : Option Addr) (len cap : Nat) (re im : Nat → Nat) (hl : len ≤ 1048576) (w : World) (h : Cs a len re im w) :
    Calls Try.prog 50 #[.slice a len cap] w (Total re im len w) := by
  by_cases hm : 4096 < len
  · clear h
    go_enter Try.func50, Try.ntmps50
    go_wp2_with fail
    refine bodyPost_ret (v := cx 0 0) (by simp [results, Try.results50, go_sem]) rfl ⟨0, 0, rfl, by rw [if_pos hm]; exact ⟨rfl, rfl⟩, ?_⟩
    go_grown
  · have hm' : ¬ (4096 : Int) < (len : Int) := by omega
    have hb0 := below_new w (.cells #[.float .f64 0, .float .f64 0] 39)
    have hc := l1Sum_any a len cap re im hl len 0 _ (by omega) (h.below hb0)
    rw [Nat.zero_add] at hc
    have p0 := P2.new 0 0 39 w
    have HP0 : Hid (P2 w.heap.size 0 0 (w.alloc (.cells #[.float .f64 0, .float .f64 0] 39))) := p0
    have HB0 : Hid (Below w.heap.size w (w.alloc (.cells #[.float .f64 0, .float .f64 0] 39))) := hb0
    clear h p0 hb0
    go_enter Try.func50, Try.ntmps50
    go_wp2_with fail
    refine hc.mono ?_
    rintro e w1 ⟨r, s, rfl, hr, hs, hb⟩
    obtain ⟨z0, z1, f0, f1⟩ := HP0.out.below hb
    have HB1 : Hid (Below w.heap.size w w1) := Below.next HB0.out (Nat.le_refl _) hb
    have HR : Hid (Halves re 0 len r ∧ Halves im 0 len s) := ⟨hr, hs⟩
    clear hb hc hr hs HP0 HB0
    go_wp2_with fail
    refine bodyPost_ret (v := cx r s) (by simp [results, Try.results50, go_sem, z0, z1]) rfl ⟨r, s, rfl, by rw [if_neg hm]; exact HR.out, ?_⟩
    exact (HB1.out.setCell (by simp) _).setCell (by simp) _

theorem implSum_any (a : Option Addr) (len cap : Nat) (re im : Nat → Nat) (hl : len ≤ 1048576) (hc1 : len ≤ cap) (hc2 : cap ≤ 9223372036854775807) (w : World) (h : Cs a len re im w) :
    Calls Try.prog 39 #[.slice a len cap] w (Total re im len w) := by
  by_cases hm : 4096 < len
  · clear h
    go_enter Try.func39, Try.ntmps39
    go_wp2_with fail
    refine bodyPost_ret (v := cx 0 0) (by simp [results, Try.results39, go_sem]) rfl ⟨0, 0, rfl, by rw [if_pos hm]; exact ⟨rfl, rfl⟩, ?_⟩
    go_grown
  · have hm' : ¬ (4096 : Int) < (len : Int) := by omega
    have hb0 := below_new w (.cells #[.float .f64 0, .float .f64 0] 39)
    have hc : ∀ w' : World, Cs a len re im w' → Calls Try.prog 79 #[.slice a len cap] w' (NSums re im 0 len w') := by
      intro w' h'
      by_cases h0 : len = 0
      · subst h0; exact sumIn_none a cap re im 0 w'
      · obtain ⟨b, off, rfl, _, _⟩ := h'.at (k := 0) (by omega)
        have := sumIn_any b off len re im hl len 0 cap w' (by omega) (by omega) hc1 hc2 h'
        rw [Nat.zero_mul, Nat.add_zero] at this
        exact this
    have hc := hc _ (h.below hb0)
    have p0 := P2.new 0 0 39 w
    have HP0 : Hid (P2 w.heap.size 0 0 (w.alloc (.cells #[.float .f64 0, .float .f64 0] 39))) := p0
    have HB0 : Hid (Below w.heap.size w (w.alloc (.cells #[.float .f64 0, .float .f64 0] 39))) := hb0
    clear h p0 hb0
    go_enter Try.func39, Try.ntmps39
    go_wp2_with fail
    refine hc.mono ?_
    rintro e w1 ⟨r, s, rfl, hr, hs, hb⟩
    have HP1 : Hid (P2 w.heap.size 0 0 w1) := HP0.out.below hb
    have HB1 : Hid (Below w.heap.size w w1) := Below.next HB0.out (Nat.le_refl _) hb
    have HR : Hid (Halves re 0 len r ∧ Halves im 0 len s) := ⟨hr, hs⟩
    clear hb hc hr hs HP0 HB0
    go_wp2_with fail
    refine (fromNative_exact _ _ _).mono ?_
    rintro e w2 ⟨rfl, rfl⟩
    obtain ⟨z0, z1, f0, f1⟩ := HP1.out.below (below_new w1 (cell39 r s))
    have HB2 : Hid (Below w.heap.size w (w1.alloc (cell39 r s))) := Below.next HB1.out (Nat.le_refl _) (below_new _ _)
    clear HP1 HB1
    go_wp2_with fail
    refine bodyPost_ret (v := cx r s) (by simp [results, Try.results39, go_sem, z0, z1]) rfl ⟨r, s, rfl, by rw [if_neg hm]; exact HR.out, ?_⟩
    exact (HB2.out.setCell (by simp) _).setCell (by simp) _

end Go.Proofs.Ytepgelalkfgdlaa
