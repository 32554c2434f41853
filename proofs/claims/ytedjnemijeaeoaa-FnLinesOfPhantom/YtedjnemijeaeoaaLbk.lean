/- An image from its lines, there and back: numbers alone. -/
import Derived.Test.YtedjnemijeaeoaaMss
import Derived.Test.YtedjnemijeaeoaaIlt
namespace Go.Proofs.Ytedjnemijeaeoaa
open Go.RowKit

/-- p times the pixel k, as the sums have it; the pixel -/
def frS (p : Nat) (g : Nat → Int) (k : Nat) : Int := Lnm.sm (fun i => g (Lnm.thr p (k % p) (k / p) i)) (p + 1) - Lnm.sm g p
def frX (p : Nat) (g : Nat → Int) (k : Nat) : Int := (frS p g k).tdiv p
/-- are the first n numbers alike -/
def eqL (f g : Nat → Int) : Nat → Bool
  | 0 => true
  | n + 1 => eqL f g n && (f n == g n)
/-- the sums are those of an image -/
def frT (p m : Nat) (g : Nat → Int) : Bool := toneB p p (p * p) (frX p g) && eqL (Lnm.lin p (frX p g)) g m
/-- each is a multiple of p -/
def frD (p : Nat) (g : Nat → Int) : Nat → Bool
  | 0 => true
  | n + 1 => frD p g n && ((frS p g n).tmod p == 0)

theorem eqL_at {f g : Nat → Int} : ∀ {n k : Nat}, eqL f g n = true → k < n → f k = g k
  | n + 1, k, h, hk => by
    unfold eqL at h
    rw [Bool.and_eq_true] at h
    by_cases e : k = n
    · subst e; simpa using h.2
    · exact eqL_at h.1 (by omega)
theorem eqL_of {f g : Nat → Int} : ∀ {n : Nat}, (∀ k, k < n → f k = g k) → eqL f g n = true
  | 0, _ => rfl
  | n + 1, h => by
    unfold eqL
    rw [eqL_of (fun k hk => h k (by omega)), h n (by omega)]; simp
theorem eqL_false {f g : Nat → Int} {n k : Nat} (hk : k < n) (h : f k ≠ g k) : eqL f g n = false := by
  cases e : eqL f g n
  · rfl
  · exact absurd (eqL_at e hk) h
theorem eqL_step {f g : Nat → Int} {k : Nat} (h : eqL f g k = true) (h' : f k = g k) : eqL f g (k + 1) = true := by
  unfold eqL; rw [h, h']; simp
theorem frD_at {p : Nat} {g : Nat → Int} : ∀ {n k : Nat}, frD p g n = true → k < n → (frS p g k).tmod p = 0
  | n + 1, k, h, hk => by
    unfold frD at h
    rw [Bool.and_eq_true] at h
    by_cases e : k = n
    · subst e; simpa using h.2
    · exact frD_at h.1 (by omega)
theorem frD_of {p : Nat} {g : Nat → Int} : ∀ {n : Nat}, (∀ k, k < n → (frS p g k).tmod p = 0) → frD p g n = true
  | 0, _ => rfl
  | n + 1, h => by
    unfold frD
    rw [frD_of (fun k hk => h k (by omega)), h n (by omega)]; rfl
theorem frD_step {p : Nat} {g : Nat → Int} {k : Nat} (h : frD p g k = true) (h' : (frS p g k).tmod p = 0) : frD p g (k + 1) = true := by
  unfold frD; rw [h, h']; rfl

/-- where the sums are an image's, p divides -/
theorem frT_frD {p m : Nat} {g : Nat → Int} (h2 : 2 ≤ p) (h32 : p < 32) (hp : Lnm.isP p = true) (hm : m = (p + 1) * p) (h : frT p m g = true) : frD p g (p * p) = true := by
  unfold frT at h
  rw [Bool.and_eq_true] at h
  have he := fun k hk => eqL_at h.2 (k := k) hk
  refine frD_of fun k hk => ?_
  have hx := Nat.mod_lt k (show 0 < p by omega)
  have hy : k / p < p := Nat.div_lt_of_lt_mul hk
  have hkk : k / p * p + k % p = k := by rw [Nat.mul_comm]; exact Nat.div_add_mod k p
  have e1 : Lnm.sm (fun i => g (Lnm.thr p (k % p) (k / p) i)) (p + 1) = Lnm.sm (fun i => Lnm.lin p (frX p g) (Lnm.thr p (k % p) (k / p) i)) (p + 1) :=
    Lnm.sm_congr fun i hi => (he _ (by rw [hm]; exact Lnm.thr_lt hx (by omega))).symm
  have e2 : Lnm.sm g p = Lnm.sm (Lnm.lin p (frX p g)) p := Lnm.sm_congr fun i hi => (he _ (by rw [hm, Nat.succ_mul]; omega)).symm
  have e3 := Lnm.lin_thr h32 hp hx hy (frX p g)
  have e4 := Lnm.lin_first (show 0 < p by omega) (frX p g)
  rw [hkk] at e3
  have e5 : frS p g k = (p : Int) * frX p g k := by
    unfold frS
    rw [e1, e2, e3, e4]; omega
  rw [e5]; exact Int.mul_tmod_right _ _
theorem dsq_zero {g l : Nat → Int} : ∀ {m : Nat}, (0 ≤ Lnm.sm (dsq g l) m) ∧ (Lnm.sm (dsq g l) m = 0 ↔ eqL l g m = true)
  | 0 => by simp [Lnm.sm, eqL]
  | m + 1 => by
    obtain ⟨h1, h2⟩ := dsq_zero (g := g) (l := l) (m := m)
    have h3 : 0 ≤ dsq g l m := by
      unfold dsq
      rcases Int.le_total 0 (g m - l m) with h | h
      · exact Int.mul_nonneg h h
      · exact Int.mul_nonneg_of_nonpos_of_nonpos h h
    have h4 : dsq g l m = 0 ↔ l m = g m := by
      unfold dsq
      rw [Int.mul_eq_zero]
      omega
    show 0 ≤ Lnm.sm (dsq g l) m + dsq g l m ∧ (Lnm.sm (dsq g l) m + dsq g l m = 0 ↔ (eqL l g m && (l m == g m)) = true)
    rw [Bool.and_eq_true, ← h2, beq_iff_eq, ← h4]
    omega
theorem frS_bound {p m : Nat} {g : Nat → Int} (h2 : 2 ≤ p) (h31 : p ≤ 31) (hm : m = (p + 1) * p) (hg : ∀ k, k < m → -200000 ≤ g k ∧ g k ≤ 200000) (k : Nat) : -20000000 ≤ frS p g k ∧ frS p g k ≤ 20000000 := by
  have hx := Nat.mod_lt k (show 0 < p by omega)
  have b1 := Lnm.sm_bound (f := fun i => g (Lnm.thr p (k % p) (k / p) i)) (M := 200000) (n := p + 1) (fun i hi => hg _ (by rw [hm]; exact Lnm.thr_lt hx (by omega)))
  have b2 := Lnm.sm_bound (f := g) (M := 200000) (n := p) (fun i hi => hg _ (by rw [hm, Nat.succ_mul]; omega))
  unfold frS
  omega

/-- an image and a flag are answered -/
def ImRB (rW rH : Int) (rN : Nat) (s : Nat → Int) (c : Bool) (w : World) (e : Ending) (w' : World) : Prop :=
  ∃ a0 cap b, e = .returned (.tuple #[im rW rH a0 rN cap, .bool c]) ∧ Ow a0 b rN s w' ∧ (rN = 0 ∨ w.heap.size ≤ b) ∧ Below w.heap.size w w'

set_option maxRecDepth 100000 in
set_option maxHeartbeats 1000000 in
theorem slicesEqual_any (a a' : Option Addr) (n m cap cap' : Nat) (f g : Nat → Int) (hl : n ≤ 1048576) (hl' : m ≤ 1048576) (w : World) (h : Px a n f w) (h' : Px a' m g w) :
    Calls Try.prog 36 #[.slice a n cap, .slice a' m cap'] w fun e w' => e = .returned (.bool (decide (n = m) && eqL f g n)) ∧ Below w.heap.size w w' := by
  by_cases hnm : n = m
  · subst hnm
    have hne : ((n : Int) != (n : Int)) = false := by simp
    obtain ⟨R, hR⟩ : ∃ R, R = (decide (n = n) && eqL f g n) := ⟨_, rfl⟩
    rw [← hR]
    have HR : Hid (R = eqL f g n) := by show R = _; rw [hR]; simp
    have HP := hide h
    have HP' := hide h'
    clear hR h h'
    go_enter Try.func36, Try.ntmps36
    go_wp2_with fail
    go_loopw [5, 13] (fun _ i wr => ∃ k d : Nat, k ≤ n ∧ i = .int .i64 k ∧ eqL f g k = true ∧ wr = w.drewN d) (fun _ i _ => n - (intOf i).toNat)
    case atStart => exact ⟨0, 0, by omega, rfl, rfl, rfl⟩
    case round =>
      obtain ⟨k, d, hk, rfl, ha, rfl⟩ := hrel
      by_cases hlt : k < n
      · obtain ⟨b, off, rfl, hz⟩ := HP.out.at hlt
        obtain ⟨b', off', rfl, hz'⟩ := HP'.out.at hlt
        by_cases he : f k = g k
        · have HE := hide (eqL_step ha he)
          have hE : (f k != g k) = false := by simp [he]
          clear ha he HP HP' HR
          generalize f k = x at *
          generalize g k = y at *
          go_wp2
          go_quiet (fail)
          go_wp2
          exact ⟨⟨k + 1, _, by omega, rfl, HE.out, rfl⟩, by simp [intOf]; omega⟩
        · have HE : Hid (R = false) := by show R = false; rw [HR.out]; exact eqL_false hlt he
          have hE : (f k != g k) = true := by simp [he]
          clear ha he HP HP' HR
          generalize f k = x at *
          generalize g k = y at *
          go_wp2
          go_quiet (fail)
          go_wp2
          go_ret
          exact ⟨by rw [HE.out]; rfl, below_drewN (below_drewN (Below.refl _ _) _) _⟩
      · obtain rfl : k = n := by omega
        have HE : Hid (R = true) := by show R = true; rw [HR.out]; exact ha
        clear ha HP HP' HR
        go_wp2
        go_ret
        exact ⟨by rw [HE.out]; rfl, below_drewN (Below.refl _ _) _⟩
  · have hne : ((n : Int) != (m : Int)) = true := by simp; omega
    rw [decide_eq_false hnm]
    clear hnm h h'
    go_enter Try.func36, Try.ntmps36
    go_wp2_with fail
    go_ret
    exact ⟨rfl, Below.refl _ _⟩

end Go.Proofs.Ytedjnemijeaeoaa

namespace Go.Proofs.Ytedjnemijeaeoaa
open Go.RowKit

set_option maxRecDepth 100000 in
/-- the sum of a book -/
theorem total_values (a : Option Addr) (m cap : Nat) (d : Nat → Int) (h0 : m ≠ 0) (hl : m ≤ 1048576) (hd : ∀ k, k < m → -1000000000000 ≤ d k ∧ d k ≤ 1000000000000) (w : World) (Bs : Nat) (hc : w.cell? ⟨Bs, 0, none⟩ = some (.slice a m cap)) (px : Px a m d w) :
    Calls Try.prog 30 #[.func (.func 69) #[] #[.pointer (some ⟨Bs, 0, none⟩)]] w fun e w' => e = .returned (.int .i64 (Lnm.sm d m)) ∧ Below w.heap.size w w' := by
  have hblk : ∀ q : Addr, a = some q → q.block < w.heap.size := by
    intro q hq
    obtain ⟨b, off, ha, hlt⟩ := px.lt (by omega)
    rw [hq] at ha
    cases ha
    exact hlt
  have h2 := values_gv a m cap Bs d (· < w.heap.size) w hl hc px hblk
  have h3 := total_any 69 _ _ (· < w.heap.size) w h2 (enters_of Try.func69 (by kernel_rfl) rfl) (fun _ h => h)
  rw [sumW_sm (M := 1000000000000) (by omega) hl hd] at h3
  exact h3

end Go.Proofs.Ytedjnemijeaeoaa

namespace Go.Proofs.Ytedjnemijeaeoaa
open Go.RowKit

theorem Px.pre {a : Option Addr} {n m : Nat} {f : Nat → Int} {w : World} (h : Px a n f w) (hm : m ≤ n) : Px a m f w := by
  rcases h with h | ⟨b, off, ha, h⟩
  · exact .inl (by omega)
  · exact .inr ⟨b, off, ha, fun k hk => h k (by omega)⟩

set_option maxRecDepth 100000 in
set_option maxHeartbeats 8000000 in
theorem imageOfLines_any (p : Nat) (h2 : 2 ≤ p) (h31 : p ≤ 31) (a : Option Addr) (m cap : Nat) (g : Nat → Int) (hm : m = (p + 1) * p) (hcap : m ≤ cap) (hg : ∀ k, k < m → -200000 ≤ g k ∧ g k ≤ 200000) (w : World) (h : Px a m g w) :
    Calls Try.prog 35 #[.slice a m cap, .int .i64 p] w (ImR p p (p * p) (frX p g) w) := by
  have HP := hide h
  have hpp : p * p ≤ 31 * 31 := Nat.mul_le_mul h31 h31
  have hN : m ≤ 32 * 31 := by rw [hm]; exact Nat.mul_le_mul (by omega) h31
  have hpm : p ≤ m := by rw [hm, Nat.succ_mul]; omega
  have hpos : 0 < p * p := Nat.mul_pos (by omega) (by omega)
  obtain ⟨ba, off, rfl, hba⟩ := HP.out.lt (by omega)
  have cV := fun w Bs hc px => total_values (some ⟨ba, off, none⟩) p cap g (by omega) (by omega) (fun k hk => by have := hg k (by omega); omega) w Bs hc px
  have cT : Hid (∀ k, k < p * p → ∀ w b1 b2 b3 Bp Bl, Bx3 b1 b2 b3 p (k / p : Nat) (k % p : Nat) w →
      w.cell? ⟨Bp, 0, none⟩ = some (.func (.func 70) #[] #[.pointer (some ⟨b1, 0, none⟩), .pointer (some ⟨b2, 0, none⟩), .pointer (some ⟨b3, 0, none⟩)]) → w.cell? ⟨Bl, 0, none⟩ = some (.slice (some ⟨ba, off, none⟩) m cap) → Px (some ⟨ba, off, none⟩) m g w →
      Calls Try.prog 30 #[.func (.func 54) #[] #[.pointer (some ⟨Bp, 0, none⟩), .pointer (some ⟨Bl, 0, none⟩)]] w fun e w' => e = .returned (.int .i64 (Lnm.sm (fun i => g (Lnm.thr p (k % p) (k / p) i)) (p + 1))) ∧ Below w.heap.size w w') := by
    intro k hk w b1 b2 b3 Bp Bl hB hcp hcl px
    subst hm
    exact total_lines (k % p) (k / p) p (by omega) h31 (Nat.mod_lt k (by omega)) (Nat.div_lt_of_lt_mul hk) _ cap g (fun j hj => by have := hg j hj; omega) w b1 b2 b3 Bp Bl hB hcp hcl px
  have HSb := hide (fun k => frS_bound h2 h31 hm hg k)
  have hp0 : ((p : Int) == 0) = false := by simp; omega
  have wP : IntKind.i64.wrap ((p : Int) * (p : Int)) = ((p * p : Nat) : Int) := by rw [IntKind.wrap_i64, ← Int.natCast_mul]; omega
  have HSt := hide ((St.start w).box [.int .i64 0, .int .i64 0, .slice none 0 0] 32)
  have HU : Hid (∀ k, frS p g k = Lnm.sm (fun i => g (Lnm.thr p (k % p) (k / p) i)) (p + 1) - Lnm.sm g p) := fun _ => rfl
  obtain ⟨TT, hTT⟩ : ∃ TT, TT = Lnm.sm g p := ⟨_, rfl⟩
  rw [← hTT] at HU cV
  have hTb : -200000000 ≤ TT ∧ TT ≤ 200000000 := by
    have := Lnm.sm_bound (f := g) (M := 200000) (n := p) (fun i hi => hg i (by omega))
    rw [hTT]; omega
  have HTb := hide hTb
  have hc1 : (p : Int) ≤ (cap : Int) := by omega
  clear hTT hTb h hg hm
  obtain ⟨PP, hPP⟩ : ∃ PP, PP = p * p := ⟨_, rfl⟩
  rw [← hPP] at wP hpp hpos cT ⊢
  have hmk := make_px PP (by omega)
  clear hPP
  generalize hA : w.alloc (.cells [.int .i64 0, .int .i64 0, .slice none 0 0].toArray 32) = wA at HSt
  have hA' : w.alloc (.cells #[.int .i64 0, .int .i64 0, .slice none 0 0] 32) = wA := hA
  clear hA
  go_enter Try.func35, Try.ntmps35
  go_wp2_with fail
  refine (values_any _ _ _ _).mono ?_
  rintro e w1 ⟨rfl, rfl⟩
  have HS1 := hide (HSt.out.box [.slice (some ⟨ba, off, none⟩) p cap] 30)
  have hc1' := HS1.out.cell 0 rfl 0 rfl
  have pV : Px (some ⟨ba, off, none⟩) p g _ := (HP.out.below HS1.out.below).pre hpm
  clear HSt hA'
  generalize hB1 : wA.alloc (.cells [.slice (some ⟨ba, off, none⟩) p cap].toArray 30) = wB at HS1 hc1' pV
  have hB1' : wA.alloc (.cells #[.slice (some ⟨ba, off, none⟩) p cap] 30) = wB := hB1
  clear hB1
  go_wp2_with fail
  refine (cV _ _ hc1' pV).mono ?_
  clear hB1'
  rintro e w2 ⟨rfl, hb⟩
  have HS2 := hide (HS1.out.next hb)
  have hm := hmk w2
  have HR2 := hide (row_new PP w2)
  have HS3 := hide ((HS2.out.own (bnew w2 (.cells (madeCells #[.int .i64 0] PP) 2)) HR2.out.v (.inr (Nat.le_refl _))).box [.int .i64 p, .int .i64 p, .slice (some ⟨w2.heap.size, 0, none⟩) PP PP] 32)
  have HR3 := hide (HR2.out.below (bnew (w2.alloc (.cells (madeCells #[.int .i64 0] PP) 2)) (.cells #[.int .i64 p, .int .i64 p, .slice (some ⟨w2.heap.size, 0, none⟩) PP PP] 32)) (by simp))
  clear HS1 hb hc1' pV cV hmk
  go_wp2_with fail
  clear hm
  generalize hX : (w2.alloc (.cells (madeCells #[.int .i64 0] PP) 2)).alloc (.cells #[.int .i64 p, .int .i64 p, .slice (some ⟨w2.heap.size, 0, none⟩) PP PP] 32) = wX at *
  have hsz : (w2.alloc (.cells (madeCells #[.int .i64 0] PP) 2)).heap.size = w2.heap.size + 1 := by simp
  rw [hsz] at HS3
  have hBX : w2.heap.size < wX.heap.size := by rw [← hX]; simp; omega
  clear hX hsz HS2 HR2
  generalize w2.heap.size = B at *
  go_loopw [7, 8, 24] (fun _ _ i wr => ∃ k : Nat, k ≤ PP ∧ i = .int .i64 k ∧ Kept B wX wr ∧ Part B PP k (frX p g) wr) (fun _ _ i _ => PP - (intOf i).toNat)
  case atStart => exact ⟨0, by omega, rfl, Kept.refl _ _, HR3.out.part⟩
  case round =>
    obtain ⟨k, hk, rfl, hkept, hpart⟩ := hrel
    clear HR3
    by_cases hlt : k < PP
    · have HSr := hide (HS3.out.out (by omega) hkept)
      have cL := linesThrough_any k p (by omega) (by omega) (by omega)
      have cT' := hide (cT.out k hlt)
      have hBr : B < wr.heap.size := Nat.lt_of_lt_of_le hBX hkept.size
      have HK := hide hkept
      have HPt := hide hpart
      have hs1 := HSb.out k
      have hs2 := HU.out k
      have hTb := HTb.out
      obtain ⟨X, hX⟩ : ∃ X, X = frX p g k := ⟨_, rfl⟩
      have hX2 : X = (frS p g k).tdiv p := hX
      have HXX := hide hX
      have hbd : -20000000 ≤ X ∧ X ≤ 20000000 := by
        rw [hX2]
        have := Int.natAbs_tdiv_le_natAbs (frS p g k) p
        omega
      clear hkept hpart HS3 cT hX HSb HU
      generalize Lnm.sm (fun i => g (Lnm.thr p (k % p) (k / p) i)) (p + 1) = SS at *
      generalize k / p = kd at *
      generalize k % p = km at *
      generalize frS p g k = FF at *
      have wS : IntKind.i64.wrap (SS - TT) = FF := by rw [IntKind.wrap_i64]; omega
      have wD : IntKind.i64.wrap (FF.tdiv (p : Int)) = X := by rw [IntKind.wrap_i64, ← hX2]; omega
      have wD2 : FF.tdiv (p : Int) = X := hX2.symm
      clear hs1 hs2 hTb hX2
      go_wp2_with fail
      refine (cL _).mono ?_
      rintro e w3 ⟨b1, b2, b3, rfl, hB3, hbel3⟩
      have HS3 := hide (HSr.out.next hbel3)
      clear cL
      go_wp2_with fail
      refine (numbersAt_any _ _ _ _ _ _).mono ?_
      rintro e w4 ⟨rfl, hcp, hcl, -, hbel4⟩
      have HS4 := hide (HS3.out.next hbel4)
      go_wp2_with fail
      refine (cT'.out _ _ _ _ _ _ (hB3.below hbel4) hcp hcl (HP.out.below HS4.out.below)).mono ?_
      rintro e w5 ⟨rfl, hbel5⟩
      have hbA : Below wr.heap.size wr w5 := (hbel3.trans (hbel4.mono hbel3.size)).trans (hbel5.mono (Nat.le_trans hbel3.size hbel4.size))
      have HS5 := hide (HS4.out.next hbel5)
      have HPA := hide (HPt.out.below hbA hBr)
      obtain ⟨⟨y, hy, _⟩, fr⟩ := HPA.out k hlt
      have HKA := hide (HK.out.trans (Kept.of_below (p := B) hbA))
      obtain ⟨i0, i1, i2⟩ := HS5.out.im3 0 rfl
      have HPn := hide (HPA.out.step hlt X HXX.out).drew
      have HKn := hide (HKA.out.setCell (a := ⟨B, k, none⟩) rfl (.int .i64 X)).drew
      clear hbA HPA HKA HPt HK HS3 HS4 HS5 HSr hcp hcl hB3 hbel3 hbel4 hbel5 cT'
      go_upto_region 7 with fail
      go_region_with (fail)
      all_goals
        generalize (w5.setCell ⟨B, k, none⟩ (.int .i64 X)).drew = wz at *
        clear hy fr i0 i1 i2 wS wD wD2
        go_wp2_with fail
        exact ⟨⟨k + 1, by omega, rfl, HKn.out, HPn.out⟩, by simp [intOf]; omega⟩
    · obtain rfl : k = PP := by omega
      have HSe := hide (HS3.out.mark0 (by omega) hkept hpart.row.v)
      obtain ⟨i0, i1, i2⟩ := HSe.out.im3 0 rfl
      obtain ⟨z0, z1, z2⟩ := HSe.out.im3 2 rfl
      obtain ⟨e0, e1, e2⟩ := HSe.out.fr3 2 rfl
      have HE := hide ((St.fill3' (L1 := [_, _]) HSe.out (.int .i64 p) (.int .i64 p) (.slice (some ⟨B, 0, none⟩) k k)).imR p p k)
      clear HS3 hkept hpart cT HSb HU HSe HP
      go_wp2_with fail
      exact bodyPost_ret (v := im p p (some ⟨B, 0, none⟩) k k) (by simp [results, Try.results35, go_sem, z0, z1, z2]) rfl HE.out

end Go.Proofs.Ytedjnemijeaeoaa

namespace Go.Proofs.Ytedjnemijeaeoaa
open Go.RowKit

/-- the side, and whether there is an image -/
def frP (m : Nat) : Nat := (sdv (m : Int)).toNat
def frB (m : Nat) (g : Nat → Int) : Bool := (l6sV m g != 0) && frT (frP m) m g
def frW (m : Nat) (g : Nat → Int) : Int := if frB m g = true then (frP m : Int) else 0
def frN (m : Nat) (g : Nat → Int) : Nat := if frB m g = true then frP m * frP m else 0

theorem sdv_pos {m : Nat} (h : sdv (m : Int) ≠ 0) : ∃ p : Nat, sdv (m : Int) = p ∧ priB (p : Int) = true ∧ m = (p + 1) * p ∧ frP m = p ∧ 2 ≤ p ∧ p ≤ 31 ∧ Lnm.isP p = true := by
  have h2 : ∃ p : Nat, sdv (m : Int) = p ∧ priB (p : Int) = true := by
    unfold sdv at h ⊢
    repeat' split at h
    all_goals (first | exact absurd rfl h | skip)
    all_goals simp only [*]
    · exact ⟨2, rfl, rfl⟩
    · exact ⟨3, rfl, rfl⟩
    · exact ⟨5, rfl, rfl⟩
    · exact ⟨7, rfl, rfl⟩
    · exact ⟨11, rfl, rfl⟩
    · exact ⟨13, rfl, rfl⟩
    · exact ⟨17, rfl, rfl⟩
    · exact ⟨19, rfl, rfl⟩
    · exact ⟨23, rfl, rfl⟩
    · exact ⟨29, rfl, rfl⟩
    · exact ⟨31, rfl, rfl⟩
  obtain ⟨p, h3, h4⟩ := h2
  obtain ⟨q, hq, q1, q2, q3⟩ := priB_nat h4
  have : q = p := by omega
  subst this
  exact ⟨q, h3, h4, sdv_inv h4 h3, by unfold frP; rw [h3]; rfl, q1, q2, q3⟩

theorem St.imRB {w0 : World} {L : List BoxT} {O : List OwnT} {w : World} {a : Option Addr} {b n : Nat} {s : Nat → Int} (h : St w0 L ((a, b, n, fun k => .int .i64 (s k)) :: O) w) (W H : Int) (cap : Nat) (c : Bool) : ImRB W H n s c w0 (.returned (.tuple #[im W H a n cap, .bool c])) w :=
  ⟨a, cap, b, rfl, h.nthO 0 rfl, by
    by_cases h0 : n = 0
    · exact .inl h0
    · exact .inr (h.lt b (mem_blocks_own (x := (a, b, n, fun k => .int .i64 (s k))) (List.mem_cons_self ..) h0)).1, h.below⟩
theorem St.imRN {w0 : World} {L : List BoxT} {O : List OwnT} {w : World} (h : St w0 L O w) (s : Nat → Int) : ImRB 0 0 0 s false w0 (.returned (.tuple #[im 0 0 none 0 0, .bool false])) w :=
  ⟨none, 0, 0, rfl, .inl rfl, .inl rfl, h.below⟩

set_option maxRecDepth 100000 in
set_option maxHeartbeats 4000000 in
theorem implFromLines_any (a : Option Addr) (m cap : Nat) (g : Nat → Int) (hl : m ≤ 1048576) (hcap : m ≤ cap) (w : World) (h : Px a m g w) :
    Calls Try.prog 12 #[.slice a m cap] w (ImRB (frW m g) (frW m g) (frN m g) (frX (frP m) g) (frB m g) w) := by
  have HSt := hide ((St.start w).box [.int .i64 0, .int .i64 0, .slice none 0 0] 32)
  have HP := hide h
  have cS := implSideOf_any (m : Int)
  generalize hA : w.alloc (.cells [.int .i64 0, .int .i64 0, .slice none 0 0].toArray 32) = wA at HSt
  have hA' : w.alloc (.cells #[.int .i64 0, .int .i64 0, .slice none 0 0] 32) = wA := hA
  clear hA h
  obtain ⟨z0, z1, z2⟩ := HSt.out.im3 0 rfl
  obtain ⟨e0, e1, e2⟩ := HSt.out.fr3 0 rfl
  by_cases h0 : sdv (m : Int) = 0
  · have hB : frB m g = false := by unfold frB l6sV; rw [h0]; simp
    unfold frW frN
    rw [hB]
    simp only [Bool.false_eq_true, if_false]
    have HE := hide ((HSt.out.fill3 (.int .i64 0) (.int .i64 0) (.slice none 0 0)).imRN (frX (frP m) g))
    rw [h0] at cS
    generalize frX (frP m) g = s at *
    clear hB h0 HSt
    go_enter Try.func12, Try.ntmps12
    go_wp2_with fail
    refine (cS _).mono ?_
    rintro e w1 ⟨rfl, rfl⟩
    clear cS
    go_wp2_with fail
    exact bodyPost_ret (v := .tuple #[im 0 0 none 0 0, .bool false]) (by simp [results, Try.results12, go_sem, z0, z1, z2]) rfl HE.out
  · obtain ⟨p, hp1, hp2, hm, hpP, p2, p31, hisP⟩ := sdv_pos h0
    have hp0 : ((p : Int) == 0) = false := by simp; omega
    have cL := fun w' h => areLineSums_any p (by omega) a m cap g hl w' h
    have hls : lsB p m g = alW g (-200000) 200000 m := by unfold lsB; rw [decide_eq_true hm]; rfl
    rw [hp1] at cS
    rw [hls] at cL
    rw [hpP]
    cases hal : alW g (-200000) 200000 m
    · have hB : frB m g = false := by unfold frB l6sV; rw [hal]; simp
      unfold frW frN
      rw [hB]
      simp only [Bool.false_eq_true, if_false]
      have HE := hide ((HSt.out.fill3 (.int .i64 0) (.int .i64 0) (.slice none 0 0)).imRN (frX p g))
      have pA := HP.out.below HSt.out.below
      rw [hal] at cL
      generalize frX p g = s at *
      clear hB h0 HSt hal hls hm hpP hp1 hp2 HP
      go_enter Try.func12, Try.ntmps12
      go_wp2_with fail
      refine (cS _).mono ?_
      rintro e w1 ⟨rfl, rfl⟩
      clear cS
      go_wp2_with fail
      refine (cL _ pA).mono ?_
      rintro e w2 ⟨rfl, rfl⟩
      clear cL pA
      go_wp2_with fail
      exact bodyPost_ret (v := .tuple #[im 0 0 none 0 0, .bool false]) (by simp [results, Try.results12, go_sem, z0, z1, z2]) rfl HE.out
    · have hlsT : lsB p m g = true := by rw [hls, hal]
      have hg := (lsB_parts hlsT).2
      have cI := fun w' h => imageOfLines_any p p2 p31 a m cap g hm hcap hg w' h
      have hpp : p * p ≤ 31 * 31 := Nat.mul_le_mul p31 p31
      have cN := fun a1 c1 w' h => implLines_any (p : Int) (p : Int) a1 (p * p) c1 (frX p g) (by omega) w' h
      have hln : lnN (p : Int) (p : Int) (p * p) (frX p g) ≤ 1048576 := by
        unfold lnN
        split
        · rw [Int.toNat_natCast, ← hm]; exact hl
        · omega
      have cE := fun a1 a2 c1 c2 w' h h' => slicesEqual_any a1 a2 (lnN (p : Int) (p : Int) (p * p) (frX p g)) m c1 c2 (lnF (p : Int) (frX p g)) g hln hl w' h h'
      have hEq : (decide (lnN (p : Int) (p : Int) (p * p) (frX p g) = m) && eqL (lnF (p : Int) (frX p g)) g (lnN (p : Int) (p : Int) (p * p) (frX p g))) = frT p m g := by
        unfold frT lnN lnF
        rw [Int.toNat_natCast]
        cases ht : toneB (p : Int) (p : Int) (p * p) (frX p g)
        · simp; intro hh; rw [hm] at hh; exact absurd hh.symm (Nat.ne_of_gt (Nat.mul_pos (by omega) (by omega)))
        · simp [← hm]
      rw [hEq] at cE
      have hBt : frB m g = frT p m g := by
        unfold frB l6sV; rw [hal, if_pos rfl, hp1, hpP]; simp; omega
      unfold frW frN
      rw [hBt, hpP]
      rw [hal] at cL
      unfold ImR at cI
      unfold LsR at cN
      generalize lnN (p : Int) (p : Int) (p * p) (frX p g) = NL at *
      generalize lnF (p : Int) (frX p g) = lf at *
      generalize frX p g = s at *
      generalize p * p = PP at *
      cases hT : frT p m g
      · rw [hT] at cE
        simp only [Bool.false_eq_true, if_false]
        clear hT hBt hEq hg hlsT hal hls hp1 hp2 hpP h0 hm hisP
        go_enter Try.func12, Try.ntmps12
        go_wp2_with fail
        refine (cS _).mono ?_
        rintro e w1 ⟨rfl, rfl⟩
        clear cS
        go_wp2_with fail
        refine (cL _ (HP.out.below HSt.out.below)).mono ?_
        rintro e w2 ⟨rfl, rfl⟩
        clear cL hA'
        go_wp2_with fail
        refine (cI _ (HP.out.below HSt.out.below)).mono ?_
        rintro e w3 ⟨a0, c0, b0, rfl, ho, h1, hb⟩
        have HS3 := hide ((HSt.out.own hb ho.v h1).box [.int .i64 p, .int .i64 p, .slice a0 PP c0] 32)
        generalize hxw4 : w3.alloc (.cells [.int .i64 p, .int .i64 p, .slice a0 PP c0].toArray 32) = w4 at HS3
        have hyw4 : w3.alloc (.cells #[.int .i64 p, .int .i64 p, .slice a0 PP c0] 32) = w4 := hxw4
        obtain ⟨i0, i1, i2⟩ := HS3.out.im3 0 rfl
        clear hxw4 hb ho h1 HSt cI z0 z1 z2 e0 e1 e2
        have pX := (HS3.out.nthO 0 rfl).px
        go_wp2_with fail
        refine (cN _ _ _ pX).mono ?_
        rintro e w5 ⟨a5, c5, b5, rfl, ho, h1, hb⟩
        have HS5 := hide (HS3.out.own hb ho.v h1)
        clear hb ho h1 HS3 cN pX i0 i1 i2 hyw4
        have pY := (HS5.out.nthO 0 rfl).px
        go_wp2_with fail
        refine (cE _ _ _ _ _ pY (HP.out.below HS5.out.below)).mono ?_
        rintro e w6 ⟨rfl, hb⟩
        have HS6 := hide (HS5.out.next hb)
        obtain ⟨z0, z1, z2⟩ := HS6.out.im3 1 rfl
        obtain ⟨e0, e1, e2⟩ := HS6.out.fr3 1 rfl
        have HE := hide ((St.fill3' (L1 := [_]) HS6.out (.int .i64 0) (.int .i64 0) (.slice none 0 0)).imRN s)
        clear hb HS5 HS6 cE pY
        go_wp2_with fail
        exact bodyPost_ret (v := .tuple #[im 0 0 none 0 0, .bool false]) (by simp [results, Try.results12, go_sem, z0, z1, z2]) rfl HE.out
      · rw [hT] at cE
        simp only [if_true]
        clear hT hBt hEq hg hlsT hal hls hp1 hp2 hpP h0 hm hisP
        go_enter Try.func12, Try.ntmps12
        go_wp2_with fail
        refine (cS _).mono ?_
        rintro e w1 ⟨rfl, rfl⟩
        clear cS
        go_wp2_with fail
        refine (cL _ (HP.out.below HSt.out.below)).mono ?_
        rintro e w2 ⟨rfl, rfl⟩
        clear cL hA'
        go_wp2_with fail
        refine (cI _ (HP.out.below HSt.out.below)).mono ?_
        rintro e w3 ⟨a0, c0, b0, rfl, ho, h1, hb⟩
        have HS3 := hide ((HSt.out.own hb ho.v h1).box [.int .i64 p, .int .i64 p, .slice a0 PP c0] 32)
        generalize hxw4 : w3.alloc (.cells [.int .i64 p, .int .i64 p, .slice a0 PP c0].toArray 32) = w4 at HS3
        have hyw4 : w3.alloc (.cells #[.int .i64 p, .int .i64 p, .slice a0 PP c0] 32) = w4 := hxw4
        obtain ⟨i0, i1, i2⟩ := HS3.out.im3 0 rfl
        clear hxw4 hb ho h1 HSt cI z0 z1 z2 e0 e1 e2
        have pX := (HS3.out.nthO 0 rfl).px
        go_wp2_with fail
        refine (cN _ _ _ pX).mono ?_
        rintro e w5 ⟨a5, c5, b5, rfl, ho, h1, hb⟩
        have HS5 := hide (HS3.out.own hb ho.v h1)
        clear hb ho h1 HS3 cN pX i0 i1 i2 hyw4
        have pY := (HS5.out.nthO 0 rfl).px
        go_wp2_with fail
        refine (cE _ _ _ _ _ pY (HP.out.below HS5.out.below)).mono ?_
        rintro e w6 ⟨rfl, hb⟩
        have HS6 := hide (HS5.out.next hb)
        obtain ⟨i0, i1, i2⟩ := HS6.out.im3 0 rfl
        obtain ⟨z0, z1, z2⟩ := HS6.out.im3 1 rfl
        obtain ⟨e0, e1, e2⟩ := HS6.out.fr3 1 rfl
        have HE := hide (((St.fill3' (L1 := [_]) HS6.out (.int .i64 p) (.int .i64 p) (.slice a0 PP c0)).sub (List.Sublist.refl _) (List.Sublist.cons _ (List.Sublist.refl _))).imRB p p c0 true)
        clear hb HS5 HS6 cE pY
        go_wp2_with fail
        exact bodyPost_ret (v := .tuple #[im p p a0 PP c0, .bool true]) (by simp [results, Try.results12, go_sem, z0, z1, z2]) rfl HE.out

end Go.Proofs.Ytedjnemijeaeoaa

namespace Go.Proofs.Ytedjnemijeaeoaa
open Go.RowKit

theorem frS_lin {p : Nat} {f : Nat → Int} (h32 : p < 32) (hp : Lnm.isP p = true) {k : Nat} (hk : k < p * p) : frS p (Lnm.lin p f) k = (p : Int) * f k := by
  have hpos : 0 < p := by
    rcases Nat.eq_zero_or_pos p with h | h
    · rw [h] at hk; simp at hk
    · exact h
  have hx := Nat.mod_lt k hpos
  have hy : k / p < p := Nat.div_lt_of_lt_mul hk
  have hkk : k / p * p + k % p = k := by rw [Nat.mul_comm]; exact Nat.div_add_mod k p
  have e3 := Lnm.lin_thr h32 hp hx hy f
  have e4 := Lnm.lin_first hpos f
  rw [hkk] at e3
  unfold frS
  rw [e3, e4]
  omega
theorem frX_lin {p : Nat} {f : Nat → Int} (h32 : p < 32) (hp : Lnm.isP p = true) {k : Nat} (hk : k < p * p) : frX p (Lnm.lin p f) k = f k := by
  unfold frX
  rw [frS_lin h32 hp hk]
  refine Int.mul_tdiv_cancel_left _ ?_
  intro h
  have : p = 0 := by omega
  rw [this] at hk
  simp at hk
theorem alW_cg {f g : Nat → Int} {lo hi : Int} : ∀ {n : Nat}, (∀ k, k < n → f k = g k) → alW f lo hi n = alW g lo hi n
  | 0, _ => rfl
  | n + 1, h => by unfold alW; rw [alW_cg (fun k hk => h k (by omega)), h n (by omega)]
theorem allB_cg {f g : Nat → Int} : ∀ {n : Nat}, (∀ k, k < n → f k = g k) → allB f n = allB g n
  | 0, _ => rfl
  | n + 1, h => by unfold allB; rw [allB_cg (fun k hk => h k (by omega)), h n (by omega)]
theorem toneB_cg {W H : Int} {n : Nat} {f g : Nat → Int} (h : ∀ k, k < n → f k = g k) : toneB W H n f = toneB W H n g := by
  unfold toneB okB
  rw [alW_cg h, allB_cg h]
theorem lin_cg {p : Nat} {f g : Nat → Int} (hp : 0 < p) (h : ∀ k, k < p * p → f k = g k) (l : Nat) : Lnm.lin p f l = Lnm.lin p g l := Lnm.sm_congr fun _ hj => h _ (plc_lt hp hj)
theorem dsq_same (g : Nat → Int) : ∀ m, Lnm.sm (dsq g g) m = 0
  | 0 => rfl
  | m + 1 => by
    unfold Lnm.sm
    rw [dsq_same g m]
    unfold dsq
    simp
theorem alW_of6 {f : Nat → Int} {lo hi : Int} : ∀ {n : Nat}, (∀ k, k < n → lo ≤ f k ∧ f k ≤ hi) → alW f lo hi n = true
  | 0, _ => rfl
  | n + 1, h => by
    have := h n (by omega)
    unfold alW
    rw [alW_of6 (fun k hk => h k (by omega))]
    unfold inB
    simp [this.1, this.2]
/-- a tone image: its side, its lines, and that they give it back -/
theorem lines_back {W H : Int} {n : Nat} {f : Nat → Int} (h : toneB W H n f = true) :
    H = W ∧ 0 < n ∧ n ≤ 961 ∧ 0 < lnN W H n f ∧ lnN W H n f ≤ 992 ∧ (∀ k, -126945 ≤ lnF W f k ∧ lnF W f k ≤ 126945) ∧ frB (lnN W H n f) (lnF W f) = true ∧ (frP (lnN W H n f) : Int) = W ∧ frP (lnN W H n f) * frP (lnN W H n f) = n ∧ (∀ k, k < n → frX (frP (lnN W H n f)) (lnF W f) k = f k) ∧ msV W H n f (lnN W H n f) (lnF W f) = 0 ∧
    ∀ v, v = lnF W f 0 + 1 → frB (lnN W H n f) (Lnm.upd (lnF W f) 0 v) = false := by
  obtain ⟨p, hW, hH, hn, p1, p2, hP, hf⟩ := toneB_parts h
  subst hW hH
  have hpri : priB (p : Int) = true := by
    unfold toneB at h
    simp only [Bool.and_eq_true] at h
    exact h.2.2.1
  have hlN : lnN (p : Int) (p : Int) n f = (p + 1) * p := by unfold lnN; rw [if_pos h, Int.toNat_natCast]
  have hlF : lnF (p : Int) f = Lnm.lin p f := by unfold lnF; rw [Int.toNat_natCast]
  rw [hlN, hlF]
  have hsd : sdv (((p + 1) * p : Nat) : Int) = p := by
    have := sdv_yes hpri
    rw [Int.natCast_mul]
    exact this
  have hfrP : frP ((p + 1) * p) = p := by unfold frP; rw [hsd, Int.toNat_natCast]
  have hpp : n ≤ 31 * 31 := by rw [hn]; exact Nat.mul_le_mul p2 p2
  have hN : (p + 1) * p ≤ 32 * 31 := Nat.mul_le_mul (by omega) p2
  have hpos : 0 < n := by rw [hn]; exact Nat.mul_pos (by omega) (by omega)
  have hN0 : 0 < (p + 1) * p := Nat.mul_pos (by omega) (by omega)
  have hbd : ∀ k, -126945 ≤ Lnm.lin p f k ∧ Lnm.lin p f k ≤ 126945 := fun k => lin_bound (by omega) p2 (fun k hk => hf k (by omega)) k
  have hX : ∀ k, k < p * p → frX p (Lnm.lin p f) k = f k := fun k hk => frX_lin (by omega) hP hk
  have hal : ∀ g : Nat → Int, (∀ k, -200000 ≤ g k ∧ g k ≤ 200000) → l6sV ((p + 1) * p) g = p := fun g hg => by
    unfold l6sV
    rw [if_pos (alW_of6 fun k _ => hg k), hsd]
  have hT : frT p ((p + 1) * p) (Lnm.lin p f) = true := by
    unfold frT
    rw [Bool.and_eq_true]
    refine ⟨?_, eqL_of fun k _ => lin_cg (by omega) hX k⟩
    rw [toneB_cg hX, ← hn]
    exact h
  refine ⟨rfl, hpos, by omega, hN0, by omega, hbd, ?_, by rw [hfrP], by rw [hfrP, hn], fun k hk => by rw [hfrP]; exact hX k (by omega), ?_, fun v hv => ?_⟩
  · unfold frB
    rw [hfrP, hT, hal _ (fun k => by have := hbd k; omega)]
    have : ((p : Int) != 0) = true := by simp; omega
    rw [this]
    rfl
  · unfold msV msB lsB
    rw [h, Int.toNat_natCast, decide_eq_true rfl, alW_of6 (fun k _ => by have := hbd k; omega), hlF]
    exact dsq_same _ _
  · unfold frB
    rw [hfrP]
    have hF : frT p ((p + 1) * p) (Lnm.upd (Lnm.lin p f) 0 v) = false := by
      rw [Bool.eq_false_iff]
      intro hc
      have hD := frT_frD p1 (by omega) hP rfl hc
      have hkp : p < p * p := by
        have := Nat.mul_le_mul_right p p1
        omega
      have h0 := frD_at hD hkp
      have u0 : Lnm.upd (Lnm.lin p f) 0 v 0 = Lnm.lin p f 0 + 1 := by unfold Lnm.upd; rw [if_pos rfl]; exact hv
      have u1 : ∀ k, k ≠ 0 → Lnm.upd (Lnm.lin p f) 0 v k = Lnm.lin p f k := fun k hk => by unfold Lnm.upd; rw [if_neg hk]
      have e1 : Lnm.sm (fun i => Lnm.upd (Lnm.lin p f) 0 v (Lnm.thr p (p % p) (p / p) i)) (p + 1) = Lnm.sm (fun i => Lnm.lin p f (Lnm.thr p (p % p) (p / p) i)) (p + 1) := Lnm.sm_congr fun i hi => u1 _ (by
        rw [Nat.mod_self, Nat.div_self (by omega)]
        unfold Lnm.thr
        by_cases hip : i = p
        · rw [if_pos hip]; omega
        · rw [if_neg hip]
          by_cases hi0 : i = 0
          · subst hi0
            unfold Lnm.tt
            have : (((1 : Nat) : Int) - ((0 : Nat) : Int) * ((0 : Nat) : Int)) % (p : Int) = 1 := by
              rw [show (((1 : Nat) : Int) - ((0 : Nat) : Int) * ((0 : Nat) : Int)) = 1 by simp]
              exact Int.emod_eq_of_lt (by omega) (by omega)
            rw [this]
            simp
          · have := Nat.mul_le_mul_right p (show 1 ≤ i by omega)
            omega)
      have e2 : ∀ q, 0 < q → Lnm.sm (Lnm.upd (Lnm.lin p f) 0 v) q = Lnm.sm (Lnm.lin p f) q + 1 := fun q => by
        induction q with
        | zero => intro h; omega
        | succ q ih =>
          intro _
          unfold Lnm.sm
          by_cases hq : q = 0
          · subst hq
            rw [u0]
            show 0 + (Lnm.lin p f 0 + 1) = 0 + Lnm.lin p f 0 + 1
            omega
          · rw [ih (by omega), u1 q hq]
            omega
      have e3 := frS_lin (f := f) (show p < 32 by omega) hP hkp
      unfold frS at e3
      unfold frS at h0
      rw [e1, e2 p (by omega)] at h0
      have e4 : Lnm.sm (fun i => Lnm.lin p f (Lnm.thr p (p % p) (p / p) i)) (p + 1) - (Lnm.sm (Lnm.lin p f) p + 1) = (p : Int) * f p - 1 := by omega
      rw [e4] at h0
      have hdv : (p : Int) ∣ (p : Int) * f p - 1 := Int.dvd_of_tmod_eq_zero h0
      have hd1 : (p : Int) ∣ 1 := by
        have := Int.dvd_sub (Int.dvd_mul_right (p : Int) (f p)) hdv
        rwa [show (p : Int) * f p - ((p : Int) * f p - 1) = 1 by omega] at this
      have := Int.le_of_dvd (by omega) hd1
      omega
    rw [hF, Bool.and_false]

end Go.Proofs.Ytedjnemijeaeoaa
