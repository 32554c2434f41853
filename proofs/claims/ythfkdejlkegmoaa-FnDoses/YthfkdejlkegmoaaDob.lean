/- DoseBook: the specification and the program. -/
import Derived.Test.YthfkdejlkegmoaaDos
import Derived.Test.YthfkdejlkegmoaaRup
namespace Go.Proofs.Ythfkdejlkegmoaa
open Go.RowKit

/-- the book when k exposures are through; the sum of their amounts -/
def bkF (g : Nat → Int) : Nat → Nat → Int
  | 0 => fun _ => 0
  | k + 1 => Lnm.upd (bkF g k) (g (k * 2)).toNat (bkF g k (g (k * 2)).toNat + g (k * 2 + 1))
def amS (g : Nat → Int) : Nat → Int := Lnm.sm (fun j => g (j * 2 + 1))
def dbN (n : Nat) (g : Nat → Int) : Nat := if exB n g = true then 32 else 0
def dbC (n : Nat) (g : Nat → Int) : Int := if exB n g = true then amS g n else 0

/-- a list and a number are answered -/
def LsRI (n : Nat) (s : Nat → Int) (c : Int) (w : World) (e : Ending) (w' : World) : Prop :=
  ∃ a cap b, e = .returned (.tuple #[.slice a n cap, .int .i64 c]) ∧ Ow a b n s w' ∧ (n = 0 ∨ w.heap.size ≤ b) ∧ Below w.heap.size w w'

theorem sm_upd (b : Nat → Int) (q : Nat) (v : Int) {n : Nat} (hq : q < n) : Lnm.sm (Lnm.upd b q v) n = Lnm.sm b n + (v - b q) := by
  have e : ∀ k, k < n → Lnm.upd b q v k = b k + (if k = q then v - b q else 0) := fun k _ => by
    unfold Lnm.upd
    split
    · rename_i h; rw [h]; omega
    · omega
  rw [Lnm.sm_congr e, Lnm.sm_add, Lnm.sm_one, if_pos hq]
theorem bk_bound {g : Nat → Int} : ∀ {k : Nat}, exA g k = true → ∀ o, 0 ≤ bkF g k o ∧ bkF g k o ≤ 1000000 * (k : Int)
  | 0, _, o => by simp [bkF]
  | k + 1, h, o => by
    have hk : exA g k = true := by unfold exA at h; rw [Bool.and_eq_true] at h; exact h.1
    obtain ⟨_, h1, h2⟩ := exA_at h (show k < k + 1 by omega)
    show 0 ≤ Lnm.upd _ _ _ o ∧ Lnm.upd _ _ _ o ≤ _
    unfold Lnm.upd
    have a1 := bk_bound hk o
    have a2 := bk_bound hk (g (k * 2)).toNat
    split <;> omega
theorem am_bound {g : Nat → Int} : ∀ {k : Nat}, exA g k = true → 0 ≤ amS g k ∧ amS g k ≤ 1000000 * (k : Int)
  | 0, _ => by simp [amS, Lnm.sm]
  | k + 1, h => by
    have hk : exA g k = true := by unfold exA at h; rw [Bool.and_eq_true] at h; exact h.1
    obtain ⟨_, h1, h2⟩ := exA_at h (show k < k + 1 by omega)
    have a1 := am_bound hk
    show 0 ≤ amS g k + g (k * 2 + 1) ∧ amS g k + g (k * 2 + 1) ≤ _
    omega
theorem bk_total {g : Nat → Int} : ∀ {k : Nat}, exA g k = true → Lnm.sm (bkF g k) 32 = amS g k
  | 0, _ => Lnm.sm_zero 32
  | k + 1, h => by
    have hk : exA g k = true := by unfold exA at h; rw [Bool.and_eq_true] at h; exact h.1
    obtain ⟨⟨o, ho, ho2⟩, _⟩ := exA_at h (show k < k + 1 by omega)
    show Lnm.sm (Lnm.upd _ _ _) 32 = amS g k + g (k * 2 + 1)
    rw [sm_upd _ _ _ (by rw [ho, Int.toNat_natCast]; exact ho2), bk_total hk]
    omega
theorem exA_le {g : Nat → Int} {n k : Nat} (h : exA g n = true) (hk : k ≤ n) : exA g k = true := by
  induction n with
  | zero => obtain rfl : k = 0 := (by omega); rfl
  | succ n ih =>
    by_cases e : k = n + 1
    · subst e; exact h
    · unfold exA at h; rw [Bool.and_eq_true] at h
      exact ih h.1 (by omega)

set_option maxRecDepth 100000 in
set_option maxHeartbeats 8000000 in
theorem specDoseBook_any (a : Option Addr) (n cap : Nat) (g : Nat → Int) (hl : n ≤ 1048576) (w : World) (h : Px a (n * 2) g w) :
    Calls Try.prog 6 #[.slice a n cap] w (LsRI (dbN n g) (bkF g n) (dbC n g) w) := by
  have c := l6Exposures_any a n cap g hl w h
  unfold dbN dbC
  cases hq : exB n g
  · rw [hq] at c
    clear hq h
    go_enter Try.func6, Try.ntmps6
    go_wp2_with fail
    refine c.mono ?_
    rintro e w1 ⟨rfl, rfl⟩
    go_wp2_with fail
    exact bodyPost_ret (v := .tuple #[.slice (some ⟨w1.heap.size, 0, none⟩) 0 0, .int .i64 0]) (by simp [results, Try.results6, go_sem]) rfl ⟨_, _, 0, rfl, .inl rfl, .inl rfl, bnew _ _⟩
  · have hx : exA g n = true := by unfold exB at hq; rw [Bool.and_eq_true] at hq; exact hq.2
    have hn : n ≤ 4096 := by unfold exB at hq; rw [Bool.and_eq_true] at hq; simpa using hq.1
    rw [hq] at c
    simp only [if_true]
    have HX := hide hx
    have HP := hide h
    have hmk : (Instr.makeSlice 25 (.int .i64 32) (.int .i64 32)).run Try.prog w = .ok (.slice (some ⟨w.heap.size, 0, none⟩) 32 32) (w.alloc (.cells (madeCells #[.int .i64 0] 32) 2)) := make_px 32 (by omega) w
    have HR2 := hide (row_new 32 w)
    have HS2 := hide ((St.start w).own (bnew w (.cells (madeCells #[.int .i64 0] 32) 2)) HR2.out.v (.inr (Nat.le_refl _)))
    obtain ⟨V, hV⟩ : ∃ V, V = amS g n := ⟨_, rfl⟩
    rw [← hV]
    have HV := hide hV
    clear hq h hx hV
    go_enter Try.func6, Try.ntmps6
    go_wp2_with fail
    refine c.mono ?_
    rintro e w1 ⟨rfl, rfl⟩
    clear c
    go_wp2_with fail
    clear hmk
    generalize hX : w1.alloc (.cells (madeCells #[.int .i64 0] 32) 2) = wX at *
    generalize hB : w1.heap.size = B at *
    go_loopw [5, 6] (fun s i wr => ∃ k : Nat, k ≤ n ∧ i = .int .i64 k ∧ s = .int .i64 (amS g k) ∧ Kept B wX wr ∧ Row B 32 (bkF g k) wr) (fun _ i _ => n - (intOf i).toNat)
    case atStart => exact ⟨0, by omega, rfl, rfl, Kept.refl _ _, HR2.out⟩
    case round =>
      obtain ⟨k, hk, rfl, rfl, hkept, hrow⟩ := hrel
      clear HR2
      by_cases hlt : k < n
      · have HSr := hide (HS2.out.out (by omega) hkept)
        obtain ⟨b, off, rfl, hbl, z0, z1⟩ := (HP.out.below HSr.out.below).atExp hlt
        have hbB : b ≠ B := by
          obtain ⟨b', off', he, hlt', _⟩ := HP.out.atExp hlt
          cases he
          omega
        obtain ⟨⟨o, ho, ho2⟩, m1, m2⟩ := exA_at HX.out hlt
        have b1 := bk_bound (exA_le HX.out hk) o
        have b2 := am_bound (exA_le HX.out hk)
        obtain ⟨q1, q2⟩ := hrow o ho2
        have hst : bkF g (k + 1) = Lnm.upd (bkF g k) o (bkF g k o + g (k * 2 + 1)) := by
          show Lnm.upd _ _ _ = _
          rw [ho, Int.toNat_natCast]
        have HRn : Hid (Row B 32 (bkF g (k + 1)) (wr.setCell ⟨B, o, none⟩ (.int .i64 (bkF g k o + g (k * 2 + 1)))).drew) := by rw [hst]; exact hrow.upd ho2 (bkF g k o + g (k * 2 + 1))
        obtain ⟨Y2, hY2⟩ : ∃ Y2, Y2 = amS g (k + 1) := ⟨_, rfl⟩
        have has : Y2 = amS g k + g (k * 2 + 1) := hY2
        have HAs := hide has
        have HY := hide hY2
        rw [ho] at z0
        clear hst has ho hY2
        have z1' : ((wr.setCell ⟨B, o, none⟩ (.int .i64 (bkF g k o + g (k * 2 + 1)))).drew).cell? ⟨b, off + k * 2 + 1, none⟩ = some (.int .i64 (g (k * 2 + 1))) := by
          rw [World.cell?_drew, World.cell?_setCell_other _ _ _ _ (by intro hh; injection hh with h5; exact hbB h5.symm)]; exact z1
        have HKn := hide (hkept.setCell (a := ⟨B, o, none⟩) rfl (.int .i64 (bkF g k o + g (k * 2 + 1)))).drew
        generalize g (k * 2 + 1) = M1 at *
        generalize bkF g k o = X1 at *
        generalize amS g k = Y1 at *
        obtain ⟨X2, hX2⟩ : ∃ X2, X2 = X1 + M1 := ⟨_, rfl⟩
        have wX : IntKind.i64.wrap (X1 + M1) = X2 := by rw [IntKind.wrap_i64]; omega
        have wY : IntKind.i64.wrap (Y1 + M1) = Y2 := by rw [IntKind.wrap_i64, HAs.out]; omega
        rw [← hX2] at HRn z1' HKn
        clear hX2 HAs m1 m2 b1 b2 hkept hrow HSr HX HP HV HS2 hbB hbl
        go_upto_region 8 with fail
        go_region_with (fail)
        all_goals
          generalize (wr.setCell ⟨B, o, none⟩ (.int .i64 X2)).drew = wz at *
          clear q1 q2 z0 z1 wX
          go_wp2_with fail
          exact ⟨⟨k + 1, by omega, rfl, (by rw [HY.out]), HKn.out, HRn.out⟩, by simp [intOf]; omega⟩
      · obtain rfl : k = n := by omega
        have HSe := hide (HS2.out.mark0 (by omega) hkept hrow.v)
        have HE : Hid (LsRI 32 (bkF g k) V w1 (.returned (.tuple #[.slice (some ⟨B, 0, none⟩) 32 32, .int .i64 (amS g k)])) wr) := ⟨_, _, B, by rw [HV.out], (HSe.out.nthO 0 rfl).i, .inr (by omega), HSe.out.below⟩
        clear HSe HX HP HV HS2 hrow hkept
        go_wp2_with fail
        exact bodyPost_ret (v := .tuple #[.slice (some ⟨B, 0, none⟩) 32 32, .int .i64 (amS g k)]) (by simp [results, Try.results6, go_sem]) rfl HE.out

end Go.Proofs.Ythfkdejlkegmoaa
