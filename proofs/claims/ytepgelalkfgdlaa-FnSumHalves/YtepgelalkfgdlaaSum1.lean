/- The sum in halves of the specification, over a list by its places. -/
import Derived.Test.YtepgelalkfgdlaaSum
namespace Go.Proofs.Ytepgelalkfgdlaa
open Ieee Go.RowKit
attribute [local go_sem] run_store_float alloc_drewN setCell_drewN shape?_drewN

/-- a slice holds these pairs -/
def Cs (a : Option Addr) (len : Nat) (re im : Nat → Nat) (w : World) : Prop :=
  len = 0 ∨ ∃ b off, a = some ⟨b, off, none⟩ ∧ ∀ k, k < len → w.cell? ⟨b, off + k * 2, none⟩ = some (.float .f64 (re k)) ∧ w.cell? ⟨b, off + k * 2 + 1, none⟩ = some (.float .f64 (im k))

theorem Cs.below {a : Option Addr} {len : Nat} {re im : Nat → Nat} {w w' : World} (h : Cs a len re im w) (hb : Below w.heap.size w w') : Cs a len re im w' := by
  rcases h with h | ⟨b, off, ha, h⟩
  · exact .inl h
  · refine .inr ⟨b, off, ha, fun k hk => ?_⟩
    have hl : b < w.heap.size := World.block_lt_of_cell? w _ (h k hk).1
    exact ⟨(hb.cell (p := ⟨b, off + k * 2, none⟩) hl).trans (h k hk).1, (hb.cell (p := ⟨b, off + k * 2 + 1, none⟩) hl).trans (h k hk).2⟩

theorem Cs.at {a : Option Addr} {len k : Nat} {re im : Nat → Nat} {w : World} (h : Cs a len re im w) (hk : k < len) :
    ∃ b off, a = some ⟨b, off, none⟩ ∧ w.cell? ⟨b, off + k * 2, none⟩ = some (.float .f64 (re k)) ∧ w.cell? ⟨b, off + k * 2 + 1, none⟩ = some (.float .f64 (im k)) := by
  rcases h with h | ⟨b, off, ha, h⟩
  · omega
  · exact ⟨b, off, ha, h k hk⟩

theorem add_spec_b (a b c d : Nat) (w : World) :
    Calls Try.prog 42 #[cx a b, cx c d] w fun e w' => ∃ r s, e = .returned (cx r s) ∧ Below w.heap.size w w' ∧ Res .add a c r ∧ Res .add b d s := by
  refine (add_spec a b c d w).mono ?_
  rintro e w1 ⟨r, s, n, rfl, rfl, h1, h2⟩
  exact ⟨r, s, rfl, below_drewN (by go_grown) _, h1, h2⟩

theorem add_impl_b (a b c d : Nat) (w : World) :
    Calls Try.prog 40 #[cx a b, cx c d] w fun e w' => ∃ r s, e = .returned (cx r s) ∧ Below w.heap.size w w' ∧ Res .add a c r ∧ Res .add b d s := by
  refine (add_impl a b c d w).mono ?_
  rintro e w1 ⟨r, s, n, rfl, rfl, h1, h2⟩
  exact ⟨r, s, rfl, below_drewN (by go_grown) _, h1, h2⟩

/-- a pair lies in a block that may be written -/
def P2 (b r s : Nat) (w : World) : Prop :=
  w.cell? ⟨b, 0, none⟩ = some (.float .f64 r) ∧ w.cell? ⟨b, 1, none⟩ = some (.float .f64 s) ∧ w.frozen? ⟨b, 0, none⟩ = false ∧ w.frozen? ⟨b, 1, none⟩ = false
theorem P2.below {b r s : Nat} {w w' : World} (h : P2 b r s w) (hb : Below w.heap.size w w') : P2 b r s w' := by
  have hl : b < w.heap.size := World.block_lt_of_cell? w _ h.1
  exact ⟨(hb.cell (p := ⟨b, 0, none⟩) hl).trans h.1, (hb.cell (p := ⟨b, 1, none⟩) hl).trans h.2.1, (hb.frozen (p := ⟨b, 0, none⟩) hl).trans h.2.2.1, (hb.frozen (p := ⟨b, 1, none⟩) hl).trans h.2.2.2⟩
theorem P2.new (r s : Nat) (t : TypeId) (w : World) : P2 w.heap.size r s (w.alloc (.cells #[.float .f64 r, .float .f64 s] t)) := by
  refine ⟨?_, ?_, ?_, ?_⟩ <;> simp [go_sem]
theorem below_new (w : World) (o : Obj) : Below w.heap.size w (w.alloc o) := (Below.refl _ _).alloc (Nat.le_refl _) _

/-- what a sum in halves answers -/
def Sums (re im : Nat → Nat) (i n : Nat) (w : World) (e : Ending) (w' : World) : Prop :=
  ∃ r s, e = .returned (cx r s) ∧ Halves re i n r ∧ Halves im i n s ∧ Below w.heap.size w w'

set_option maxHeartbeats 1000000 in
theorem l1Sum_any (a : Option Addr) (len cap : Nat) (re im : Nat → Nat) (hl : len ≤ 1048576) : ∀ (n i : Nat) (w : World), i + n ≤ len → Cs a len re im w →
    Calls Try.prog 81 #[.slice a len cap, .int .i64 (i : Int), .int .i64 ((i + n : Nat) : Int)] w (Sums re im i n w) := by
  intro n
  induction n using Nat.strongRecOn with
  | _ n ih =>
  intro i w hi h
  by_cases h0 : n = 0
  · subst h0
    have e0 : ((i + 0 : Nat) : Int) - (i : Int) = 0 := by omega
    clear ih h
    go_enter Try.func81, Try.ntmps81
    go_wp2_with fail
    refine bodyPost_ret (v := cx 0 0) (by simp [results, Try.results81, go_sem]) rfl ⟨_, _, rfl, .none _, .none _, ?_⟩
    go_grown
  by_cases h1 : n = 1
  · subst h1
    obtain ⟨b, off, rfl, hz, hz'⟩ := h.at (k := i) (by omega)
    have e0 : ((i + 1 : Nat) : Int) - (i : Int) = 1 := by omega
    have hbl : b < w.heap.size := World.block_lt_of_cell? w ⟨b, off + i * 2, none⟩ hz
    have hil : i < len := by omega
    clear ih h hi
    go_enter Try.func81, Try.ntmps81
    go_wp2_with fail
    refine bodyPost_ret (v := cx (re i) (im i)) (by simp [results, Try.results81, go_sem]) rfl ⟨_, _, rfl, .one _, .one _, ?_⟩
    go_grown
  have hh : n / 2 < n := by omega
  have hh' : n - n / 2 < n := by omega
  have e2 : Int.tdiv (n : Int) 2 = ((n / 2 : Nat) : Int) := by rw [Int.tdiv_eq_ediv_of_nonneg (by omega)]; omega
  have n0 : ((n : Int) == 0) = false := by simp; omega
  have n1 : ((n : Int) == 1) = false := by simp; omega
  have e0 : ((i + n : Nat) : Int) - (i : Int) = (n : Int) := by omega
  have c1 : ∀ (w' : World) (y : Int), y = ((i + n / 2 : Nat) : Int) → Cs a len re im w' → Calls Try.prog 81 #[.slice a len cap, .int .i64 (i : Int), .int .i64 y] w' (Sums re im i (n / 2) w') :=
    fun w' y hy hc => by rw [hy]; exact ih (n / 2) hh i w' (by omega) hc
  have c2 : ∀ (w' : World) (x y : Int), x = ((i + n / 2 : Nat) : Int) → y = ((i + n : Nat) : Int) → Cs a len re im w' → Calls Try.prog 81 #[.slice a len cap, .int .i64 x, .int .i64 y] w' (Sums re im (i + n / 2) (n - n / 2) w') :=
    fun w' x y hx hy hc => by
      rw [hx, hy]
      have := ih (n - n / 2) hh' (i + n / 2) w' (by omega) hc
      rw [show i + n / 2 + (n - n / 2) = i + n from by omega] at this
      exact this
  have HC : Hid (Cs a len re im w) := h
  have hn2 : 2 ≤ n := by omega
  clear ih h hh hh'
  go_enter Try.func81, Try.ntmps81
  go_wp2_with fail
  have hb0 := below_new w (.cells #[.float .f64 0, .float .f64 0] 39)
  have p0 := P2.new 0 0 39 w
  refine (c1 _ _ (by omega) (HC.out.below hb0)).mono ?_
  rintro e w1 ⟨r1, s1, rfl, hr1, hs1, hb⟩
  have p1 := p0.below hb
  have HB1 : Hid (Below w.heap.size w w1) := Below.next hb0 (Nat.le_refl _) hb
  have HR1 : Hid (Halves re i (n / 2) r1) := hr1
  have HS1 : Hid (Halves im i (n / 2) s1) := hs1
  clear hb hb0 c1 hr1 hs1 p0
  have HP1 : Hid (P2 w.heap.size 0 0 w1) := p1
  clear p1
  go_wp2_with fail
  have hb1 := below_new w1 (.cells #[.float .f64 r1, .float .f64 s1] 39)
  have q1 := P2.new r1 s1 39 w1
  have p1 := HP1.out.below hb1
  refine (c2 _ _ _ (by omega) (by omega) ((HC.out.below HB1.out).below hb1)).mono ?_
  rintro e w2 ⟨r2, s2, rfl, hr2, hs2, hb⟩
  have hb2 := below_new w2 (.cells #[.float .f64 r2, .float .f64 s2] 39)
  obtain ⟨q0, q1, _, _⟩ := (q1.below hb).below hb2
  obtain ⟨t0, t1, _, _⟩ := P2.new r2 s2 39 w2
  have p2 := (p1.below hb).below hb2
  have HB2 : Hid (Below w.heap.size w (w2.alloc (.cells #[.float .f64 r2, .float .f64 s2] 39))) := Below.next (Below.next (Below.next HB1.out (Nat.le_refl _) hb1) (Nat.le_refl _) hb) (Nat.le_refl _) hb2
  have HR2 : Hid (Halves re (i + n / 2) (n - n / 2) r2) := hr2
  have HS2 : Hid (Halves im (i + n / 2) (n - n / 2) s2) := hs2
  have HP2 : Hid (P2 w.heap.size 0 0 (w2.alloc (.cells #[.float .f64 r2, .float .f64 s2] 39))) := p2
  clear hb hb1 hb2 c2 hr2 hs2 HB1 HC p1 p2 HP1
  go_wp2_with fail
  refine (add_spec_b _ _ _ _ _).mono ?_
  rintro e w3 ⟨r, s, rfl, hb, hr, hs⟩
  obtain ⟨z0, z1, f0, f1⟩ := HP2.out.below hb
  have HB3 : Hid (Below w.heap.size w w3) := Below.next HB2.out (Nat.le_refl _) hb
  have HR3 : Hid (Halves re i n r) := .more i n r1 r2 r hn2 HR1.out HR2.out hr
  have HS3 : Hid (Halves im i n s) := .more i n s1 s2 s hn2 HS1.out HS2.out hs
  clear hb hr hs HR1 HR2 HS1 HS2 HB2 HP2 q0 q1 t0 t1
  go_wp2_with fail
  refine bodyPost_ret (v := cx r s) (by simp [results, Try.results81, go_sem, z0, z1]) rfl ⟨r, s, rfl, HR3.out, HS3.out, ?_⟩
  exact (HB3.out.setCell (by simp) _).setCell (by simp) _

end Go.Proofs.Ytepgelalkfgdlaa
