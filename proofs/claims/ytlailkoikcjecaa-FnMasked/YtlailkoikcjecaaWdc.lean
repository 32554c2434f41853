/- Cells: how many of the patients are in each, both ways. -/
import Derived.Test.YtlailkoikcjecaaWdp
import Derived.Test.YtlailkoikcjecaaUpd
namespace Go.Proofs.Ytlailkoikcjecaa
open Go.RowKit

/-- how many of the first k patients are counted in cell j -/
def clN (g : Nat → Int) : Nat → Nat → Int
  | 0, _ => 0
  | k + 1, j => if bitB (g (k * 4 + 3)) 2 = true ∧ 8 * g (k * 4 + 1) + g (k * 4 + 2) = (j : Int) then clN g k j + 1 else clN g k j
theorem clN_bd (g : Nat → Int) : ∀ k j, 0 ≤ clN g k j ∧ clN g k j ≤ k
  | 0, _ => by simp [clN]
  | k + 1, j => by
    have := clN_bd g k j
    simp only [clN]
    split <;> omega
theorem clN_step (g : Nat → Int) (k V : Nat) (hb : bitB (g (k * 4 + 3)) 2 = true) (h : 8 * g (k * 4 + 1) + g (k * 4 + 2) = (V : Int)) : updN (clN g k) V (clN g k V + 1) = clN g (k + 1) := by
  funext q
  unfold updN
  simp only [clN]
  by_cases e : q = V
  · subst e; rw [if_pos rfl, if_pos ⟨hb, h⟩]
  · rw [if_neg e, if_neg (by omega)]
theorem clN_skip (g : Nat → Int) (k : Nat) (hb : bitB (g (k * 4 + 3)) 2 = false) : clN g k = clN g (k + 1) := by
  funext q
  simp only [clN]
  rw [if_neg (by rw [hb]; simp)]
/-- how many cells are told -/
def ceN (g : Nat → Int) (n : Nat) : Nat := if ptsB g n = true then 64 else 0
theorem ceN_le (g : Nat → Int) (n : Nat) : ceN g n ≤ 1048576 := by unfold ceN; split <;> omega
theorem ptAt_at {g : Nat → Int} {k : Nat} (h : ptAt g k = true) : (0 ≤ g (k * 4 + 1) ∧ g (k * 4 + 1) ≤ 7) ∧ (0 ≤ g (k * 4 + 2) ∧ g (k * 4 + 2) ≤ 7) ∧ (0 ≤ g (k * 4 + 3) ∧ g (k * 4 + 3) ≤ 3) := (ptB_at h).2

set_option maxRecDepth 100000 in
set_option maxHeartbeats 2000000 in
theorem implCells_any (a : Option Addr) (n cap : Nat) (g : Nat → Int) (hl : n ≤ 1048576) (w : World) (h : Px a (n * 4) g w) :
    Calls Try.prog 18 #[.slice a n cap] w (LsR (ceN g n) (clN g n) w) := by
  have c := arePatients_any a n cap g hl w h
  have hmk := fun w' => make_px 64 (by omega) w'
  have HP := hide h
  clear h
  cases hg : ptsB g n with
  | false =>
    rw [hg] at c
    have HN : Hid (ceN g n = 0) := by show _ = _; unfold ceN; rw [hg]; rfl
    clear hmk
    go_enter Try.func18, Try.ntmps18
    go_wp2_with fail
    refine c.mono ?_
    rintro e w2 ⟨rfl, hb⟩
    have HB := hide hb
    clear c hb hg HP
    go_wp2_with fail
    go_ret
    rw [HN.out]
    exact ⟨_, _, 0, rfl, .inl rfl, .inl rfl, HB.out⟩
  | true =>
    rw [hg] at c
    have HN : Hid (ceN g n = 64) := by show _ = _; unfold ceN; rw [hg]; rfl
    obtain ⟨hn, hA, -⟩ := ptsB_at hg
    have HA := hide hA
    clear hA hg
    go_enter Try.func18, Try.ntmps18
    go_wp2_with fail
    refine c.mono ?_
    rintro e w2 ⟨rfl, hb⟩
    have HB2 := hide hb
    have HPx := hide (HP.out.below hb)
    clear c hb HP
    have hr0 := row_new 64 w2
    have hmk2 := hmk w2
    have e64 : ((64 : Nat) : Int) = 64 := rfl
    rw [e64] at hmk2
    clear hmk e64
    obtain ⟨w3, hw3⟩ : ∃ w3, w3 = w2.alloc (.cells (madeCells #[.int .i64 0] 64) 2) := ⟨_, rfl⟩
    have hb3 : Below w2.heap.size w2 w3 := by rw [hw3]; exact bnew _ _
    have hs3 : w2.heap.size < w3.heap.size := by rw [hw3]; simp
    rw [← hw3] at hr0 hmk2
    have HR3 := hide hr0
    clear hr0 hw3
    go_wp2_with fail
    go_loopw [12] (fun i wr => ∃ k : Nat, k ≤ n ∧ i = .int .i64 k ∧ Row w2.heap.size 64 (clN g k) wr ∧ Below w2.heap.size w2 wr ∧ w2.heap.size < wr.heap.size) (fun i _ => n - (intOf i).toNat)
    case atStart => exact ⟨0, by omega, rfl, HR3.out, hb3, hs3⟩
    case round =>
      obtain ⟨k, hk, rfl, hr, hb, hs⟩ := hrel
      have HR := hide hr
      have HB := hide hb
      clear hr hb HR3 hb3 hs3 hmk2
      by_cases hlt : k < n
      · obtain ⟨b, off, rfl, hbl, z0, z1, z2, z3⟩ := (HPx.out.below HB.out).atPatient hlt
        obtain ⟨⟨v0, v1⟩, ⟨u0, u1⟩, ⟨t0, t1⟩⟩ := ptAt_at (HA.out k hlt)
        have c := hasFlag_any (g (k * 4 + 3)) 2 (by omega) (by omega) 1 (by omega) rfl
        obtain ⟨wb, hwb⟩ : ∃ wb, wb = wr.alloc (cPatient (g (k * 4)) (g (k * 4 + 1)) (g (k * 4 + 2)) (g (k * 4 + 3)) 31) := ⟨_, rfl⟩
        have hbb : Below wr.heap.size wr wb := by rw [hwb]; exact bnew _ _
        obtain ⟨q0, q1, q2, q3⟩ : BPatient wr.heap.size (g (k * 4)) (g (k * 4 + 1)) (g (k * 4 + 2)) (g (k * 4 + 3)) wb := by rw [hwb]; exact BPatient.new _ _ _ _ _ _
        have hwb' := hwb.symm
        clear hwb
        have HB4 : Hid (Below w2.heap.size w2 wb) := bnext HB.out (Nat.le_refl _) hbb
        have HR4 := hide (HR.out.below hbb hs)
        have hs4 : w2.heap.size < wb.heap.size := Nat.lt_of_lt_of_le hs hbb.size
        cases hbit : bitB (g (k * 4 + 3)) 2
        · rw [hbit] at c
          have HK := hide (clN_skip g k hbit)
          clear hbit HR HB hbb hbl v0 v1 u0 u1 t0 t1
          go_wp2_with fail
          refine (c _).mono ?_
          rintro e w1 ⟨rfl, rfl⟩
          clear c z0 z1 z2 z3 hwb' q0 q1 q2 q3
          go_wp2_with fail
          exact ⟨⟨k + 1, by omega, rfl, by rw [← HK.out]; exact HR4.out, HB4.out, hs4⟩, by simp [intOf]; omega⟩
        · rw [hbit] at c
          obtain ⟨V, hV⟩ : ∃ V : Nat, 8 * g (k * 4 + 1) + g (k * 4 + 2) = (V : Int) := ⟨(8 * g (k * 4 + 1) + g (k * 4 + 2)).toNat, by omega⟩
          have hV2 : V < 64 := by omega
          have HK := hide (clN_step g k V hbit hV)
          have hcb := clN_bd g k V
          obtain ⟨y0, yf⟩ := HR4.out V hV2
          have HR5 := hide (HR4.out.updN hV2 (clN g k V + 1))
          have HB5 : Hid (Below w2.heap.size w2 (wb.setCell ⟨w2.heap.size, V, none⟩ (.int .i64 (clN g k V + 1)))) := HB4.out.setCell (Nat.le_refl _) _
          clear hbit HR HB hbb hbl HR4 HB4 t0 t1
          go_wp2_with fail
          refine (c _).mono ?_
          rintro e w1 ⟨rfl, rfl⟩
          clear c z0 z1 z2 z3 hwb'
          generalize g (k * 4) = x0 at *
          generalize g (k * 4 + 1) = x1 at *
          generalize g (k * 4 + 2) = x2 at *
          generalize g (k * 4 + 3) = x3 at *
          generalize hC : clN g k V = C at *
          clear hC
          go_wp2_with fail
          exact ⟨⟨k + 1, by omega, rfl, by rw [← HK.out]; exact HR5.out, HB5.out, by simpa using hs4⟩, by simp [intOf]; omega⟩
      · obtain rfl : k = n := by omega
        have HF : Hid (Below w.heap.size w wr) := bnext HB2.out (Nat.le_refl _) HB.out
        clear HPx HA HB
        go_wp2_with fail
        go_ret
        rw [HN.out]
        exact ⟨_, _, w2.heap.size, rfl, Ow.of_row HR.out, .inr HB2.out.size, HF.out⟩

set_option maxRecDepth 100000 in
set_option maxHeartbeats 2000000 in
theorem specCells_any (a : Option Addr) (n cap : Nat) (g : Nat → Int) (hl : n ≤ 1048576) (w : World) (h : Px a (n * 4) g w) :
    Calls Try.prog 9 #[.slice a n cap] w (LsR (ceN g n) (clN g n) w) := by
  have c := l16Patients_any a n cap g hl w h
  have hmk := fun w' => make_px 64 (by omega) w'
  have HP := hide h
  clear h
  cases hg : ptsB g n with
  | false =>
    rw [hg] at c
    have HN : Hid (ceN g n = 0) := by show _ = _; unfold ceN; rw [hg]; rfl
    clear hmk
    go_enter Try.func9, Try.ntmps9
    go_wp2_with fail
    refine c.mono ?_
    rintro e w2 ⟨rfl, hb⟩
    have HB := hide hb
    clear c hb hg HP
    go_wp2_with fail
    go_ret
    rw [HN.out]
    exact ⟨_, _, 0, rfl, .inl rfl, .inl rfl, HB.out.alloc HB.out.size _⟩
  | true =>
    rw [hg] at c
    have HN : Hid (ceN g n = 64) := by show _ = _; unfold ceN; rw [hg]; rfl
    obtain ⟨hn, hA, -⟩ := ptsB_at hg
    have HA := hide hA
    clear hA hg
    go_enter Try.func9, Try.ntmps9
    go_wp2_with fail
    refine c.mono ?_
    rintro e w2 ⟨rfl, hb⟩
    have HB2 := hide hb
    have HPx := hide (HP.out.below hb)
    clear c hb HP
    have hr0 := row_new 64 w2
    have hmk2 := hmk w2
    have e64 : ((64 : Nat) : Int) = 64 := rfl
    rw [e64] at hmk2
    clear hmk e64
    obtain ⟨w3, hw3⟩ : ∃ w3, w3 = w2.alloc (.cells (madeCells #[.int .i64 0] 64) 2) := ⟨_, rfl⟩
    have hb3 : Below w2.heap.size w2 w3 := by rw [hw3]; exact bnew _ _
    have hs3 : w2.heap.size < w3.heap.size := by rw [hw3]; simp
    rw [← hw3] at hr0 hmk2
    have HR3 := hide hr0
    clear hr0 hw3
    go_wp2_with fail
    go_loopw [4] (fun i wr => ∃ k : Nat, k ≤ n ∧ i = .int .i64 k ∧ Row w2.heap.size 64 (clN g k) wr ∧ Below w2.heap.size w2 wr ∧ w2.heap.size < wr.heap.size) (fun i _ => n - (intOf i).toNat)
    case atStart => exact ⟨0, by omega, rfl, HR3.out, hb3, hs3⟩
    case round =>
      obtain ⟨k, hk, rfl, hr, hb, hs⟩ := hrel
      have HR := hide hr
      have HB := hide hb
      clear hr hb HR3 hb3 hs3 hmk2
      by_cases hlt : k < n
      · obtain ⟨b, off, rfl, hbl, z0, z1, z2, z3⟩ := (HPx.out.below HB.out).atPatient hlt
        obtain ⟨⟨v0, v1⟩, ⟨u0, u1⟩, ⟨t0, t1⟩⟩ := ptAt_at (HA.out k hlt)
        have c := l16Bit_any (g (k * 4 + 3)) 2 (by omega) (by omega) (by omega) (by omega)
        cases hbit : bitB (g (k * 4 + 3)) 2
        · rw [hbit] at c
          have HK := hide (clN_skip g k hbit)
          clear hbit hbl v0 v1 u0 u1 t0 t1
          go_wp2_with fail
          refine (c _).mono ?_
          rintro e w1 ⟨rfl, rfl⟩
          clear c z0 z1 z2 z3
          go_wp2_with fail
          exact ⟨⟨k + 1, by omega, rfl, by rw [← HK.out]; exact HR.out, HB.out, hs⟩, by simp [intOf]; omega⟩
        · rw [hbit] at c
          obtain ⟨V, hV⟩ : ∃ V : Nat, 8 * g (k * 4 + 1) + g (k * 4 + 2) = (V : Int) := ⟨(8 * g (k * 4 + 1) + g (k * 4 + 2)).toNat, by omega⟩
          have hV2 : V < 64 := by omega
          have HK := hide (clN_step g k V hbit hV)
          have hcb := clN_bd g k V
          obtain ⟨y0, yf⟩ := HR.out V hV2
          have HRd : Hid (Row w2.heap.size 64 (clN g k) wr.drew) := HR.out
          have HR5 := hide (HRd.out.updN hV2 (clN g k V + 1))
          have HB5 : Hid (Below w2.heap.size w2 (wr.drew.setCell ⟨w2.heap.size, V, none⟩ (.int .i64 (clN g k V + 1)))) := HB.out.drew.setCell (Nat.le_refl _) _
          clear hbit hbl t0 t1 HRd
          go_wp2_with fail
          refine (c _).mono ?_
          rintro e w1 ⟨rfl, rfl⟩
          clear c z0 z3 HR HB
          generalize g (k * 4) = x0 at *
          generalize g (k * 4 + 1) = x1 at *
          generalize g (k * 4 + 2) = x2 at *
          generalize g (k * 4 + 3) = x3 at *
          generalize hC : clN g k V = C at *
          clear hC
          go_wp2_with fail
          go_region
          all_goals
            clear z1 z2
            go_wp2_with fail
            exact ⟨⟨k + 1, by omega, rfl, by rw [← HK.out]; exact HR5.out, HB5.out, by simpa using hs⟩, by simp [intOf]; omega⟩
      · obtain rfl : k = n := by omega
        have HF : Hid (Below w.heap.size w wr) := bnext HB2.out (Nat.le_refl _) HB.out
        clear HPx HA HB
        go_wp2_with fail
        go_ret
        rw [HN.out]
        exact ⟨_, _, w2.heap.size, rfl, Ow.of_row HR.out, .inr HB2.out.size, HF.out⟩

end Go.Proofs.Ytlailkoikcjecaa
