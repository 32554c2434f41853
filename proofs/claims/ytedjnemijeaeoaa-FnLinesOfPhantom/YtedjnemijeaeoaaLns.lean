/- The lines of an image: the specification. -/
import Derived.Test.YtedjnemijeaeoaaThr
namespace Go.Proofs.Ytedjnemijeaeoaa
open Go.RowKit

/-- how many lines, and which -/
def lnN (W H : Int) (n : Nat) (f : Nat → Int) : Nat := if toneB W H n f = true then (W.toNat + 1) * W.toNat else 0
def lnF (W : Int) (f : Nat → Int) : Nat → Int := Lnm.lin W.toNat f

theorem Row.upd {b n : Nat} {g : Nat → Int} {w : World} (h : Row b n g w) {q : Nat} (hq : q < n) (v : Int) : Row b n (Lnm.upd g q v) (w.setCell ⟨b, q, none⟩ (.int .i64 v)) := fun k hk => by
  obtain ⟨h1, h2⟩ := h k hk
  refine ⟨?_, by rw [World.frozen?_setCell]; exact h2⟩
  unfold Lnm.upd
  by_cases e : k = q
  · subst e; rw [if_pos rfl]; exact World.cell?_setCell_same' _ _ _ (by rw [h1]; rfl)
  · rw [if_neg e, World.cell?_setCell_other _ _ _ _ (by intro hh; injection hh with _ h5 _; exact e h5.symm)]; exact h1
theorem sct_bound {p : Nat} {f : Nat → Int} {n : Nat} (hf : ∀ k, k < n → -4095 ≤ f k ∧ f k ≤ 4095) {l k : Nat} (hk : k ≤ n) : -(4095 * (k : Int)) ≤ Lnm.sct p f l k ∧ Lnm.sct p f l k ≤ 4095 * (k : Int) := by
  unfold Lnm.sct
  refine Lnm.sm_bound (fun j hj => ?_)
  have := hf j (by omega)
  split <;> omega
/-- the lines when k places are through, and i of the lines of place k -/
def scn (p : Nat) (f : Nat → Int) (k i l : Nat) : Int := Lnm.sct p f l k + (if l / p < i ∧ Lnm.thr p (k % p) (k / p) (l / p) = l then f k else 0)
theorem scn_zero (p : Nat) (f : Nat → Int) (k : Nat) : scn p f k 0 = fun l => Lnm.sct p f l k := by
  funext l; unfold scn; rw [if_neg (fun h => Nat.not_lt_zero _ h.1)]; omega
theorem scn_last {p : Nat} (f : Nat → Int) (k l : Nat) (hl : l < (p + 1) * p) : scn p f k (p + 1) l = Lnm.sct p f l (k + 1) := by
  unfold scn
  show _ = Lnm.sct p f l k + _
  have h1 : l / p < p + 1 := Nat.div_lt_of_lt_mul (by rw [Nat.mul_comm]; exact hl)
  simp only [h1, true_and]
theorem scn_at {p : Nat} (hp : 0 < p) (f : Nat → Int) (k i : Nat) : scn p f k i (Lnm.thr p (k % p) (k / p) i) = Lnm.sct p f (Lnm.thr p (k % p) (k / p) i) k := by
  have hd : Lnm.thr p (k % p) (k / p) i / p = i := Lnm.thr_div (Nat.mod_lt k hp)
  unfold scn
  rw [hd, if_neg (fun h => Nat.lt_irrefl _ h.1)]; omega
theorem scn_step {p : Nat} (hp : 0 < p) (f : Nat → Int) (k i l : Nat) :
    Lnm.upd (scn p f k i) (Lnm.thr p (k % p) (k / p) i) (Lnm.sct p f (Lnm.thr p (k % p) (k / p) i) k + f k) l = scn p f k (i + 1) l := by
  have hx := Nat.mod_lt k hp
  have hd : Lnm.thr p (k % p) (k / p) i / p = i := Lnm.thr_div hx
  unfold Lnm.upd
  by_cases e : l = Lnm.thr p (k % p) (k / p) i
  · rw [if_pos e]; subst e
    unfold scn
    rw [hd, if_pos ⟨by omega, rfl⟩]
  · rw [if_neg e]
    unfold scn
    congr 1
    have : (l / p < i ∧ Lnm.thr p (k % p) (k / p) (l / p) = l) ↔ (l / p < i + 1 ∧ Lnm.thr p (k % p) (k / p) (l / p) = l) := by
      constructor
      · rintro ⟨a, b⟩; exact ⟨by omega, b⟩
      · rintro ⟨a, b⟩
        refine ⟨?_, b⟩
        by_cases h : l / p = i
        · rw [h] at b; exact absurd b.symm e
        · omega
    simp only [this]

set_option maxRecDepth 100000 in
set_option maxHeartbeats 16000000 in
theorem specLines_any (W H : Int) (a : Option Addr) (n cap : Nat) (f : Nat → Int) (hl : n ≤ 1048576) (w : World) (h : Px a n f w) :
    Calls Try.prog 15 #[im W H a n cap] w (LsR (lnN W H n f) (lnF W f) w) := by
  have HS0 := hide ((St.start w).box [.int .i64 W, .int .i64 H, .slice a n cap] 32)
  have c := l6Tones_any W H a n cap f hl _ (h.below HS0.out.below)
  unfold lnN
  cases hq : toneB W H n f
  · rw [hq] at c
    clear hq h
    go_enter Try.func15, Try.ntmps15
    go_wp2_with fail
    refine c.mono ?_
    rintro e w1 ⟨rfl, hb⟩
    have HB := hide (HS0.out.next hb).below
    clear c hb HS0
    go_wp2_with fail
    go_ret
    exact ⟨_, _, 0, rfl, .inl rfl, .inl rfl, HB.out.alloc HB.out.size _⟩
  · obtain ⟨p, hW, hH, hn, p1, p2, _, hf⟩ := toneB_parts hq
    rw [hq] at c
    rw [if_pos rfl]
    subst hW hH
    have HP := hide h
    have HF := hide hf
    unfold lnF
    rw [Int.toNat_natCast]
    have hpp : n ≤ 31 * 31 := by rw [hn]; exact Nat.mul_le_mul p2 p2
    have hN : (p + 1) * p ≤ 32 * 31 := Nat.mul_le_mul (by omega) p2
    have wP : IntKind.i64.wrap ((p : Int) * (p : Int)) = (n : Int) := by rw [IntKind.wrap_i64, ← Int.natCast_mul, ← hn]; omega
    have wN : IntKind.i64.wrap (((p : Int) + 1) * (p : Int)) = (((p + 1) * p : Nat) : Int) := by rw [IntKind.wrap_i64, show ((p : Int) + 1) = ((p + 1 : Nat) : Int) from rfl, ← Int.natCast_mul]; omega
    have w1' : IntKind.i64.wrap ((p : Int) + 1) = (p : Int) + 1 := by rw [IntKind.wrap_i64]; omega
    have hp0 : ((p : Int) == 0) = false := by simp; omega
    clear hq h hf
    have hpos : 0 < n := by rw [hn]; exact Nat.mul_pos (by omega) (by omega)
    obtain ⟨ba, off, rfl, _⟩ := HP.out.lt hpos
    have HLast := hide (fun k l hl => scn_last (p := p) f k l hl)
    have HStep := hide (fun k i l => scn_step (p := p) (show 0 < p by omega) f k i l)
    have HLin := hide (fun l => Lnm.sct_lin (p := p) (show 0 < p by omega) f l)
    have HLt := hide (fun (k i : Nat) (hi : i ≤ p) => Lnm.thr_lt (p := p) (y := k / p) (Nat.mod_lt k (show 0 < p by omega)) hi)
    obtain ⟨NN, hNN⟩ : ∃ NN, NN = (p + 1) * p := ⟨_, rfl⟩
    have HPP := hide hn
    rw [← hn] at HLin
    rw [← hNN] at wN hN HLast HLt ⊢
    have hmk := make_px NN (by omega)
    have hN0 : NN ≠ 0 := by rw [hNN]; exact Nat.ne_of_gt (Nat.mul_pos (by omega) (by omega))
    clear hn hNN
    go_enter Try.func15, Try.ntmps15
    go_wp2_with fail
    refine c.mono ?_
    rintro e w1 ⟨rfl, hb⟩
    have HS1 := hide (HS0.out.next hb)
    obtain ⟨i0, i1, i2⟩ := HS1.out.im3 0 rfl
    have hm := hmk w1
    have HR2 := hide (row_new NN w1)
    have HS2 := hide (HS1.out.own (bnew w1 (.cells (madeCells #[.int .i64 0] NN) 2)) HR2.out.v (.inr (Nat.le_refl _)))
    clear c hb HS0 hmk
    go_wp2_with fail
    clear i0 i1 i2 hm wN w1'
    generalize hX : w1.alloc (.cells (madeCells #[.int .i64 0] NN) 2) = wX at *
    generalize hB : w1.heap.size = B at *
    clear hX hB HS1
    go_loopw [5, 6, 7] (fun i _ _ wr => ∃ k : Nat, k ≤ n ∧ i = .int .i64 k ∧ Kept B wX wr ∧ Row B NN (fun l => Lnm.sct p f l k) wr) (fun i _ _ _ => n - (intOf i).toNat)
    case atStart => exact ⟨0, by omega, rfl, Kept.refl _ _, HR2.out⟩
    case round =>
      obtain ⟨k, hk, rfl, hkept, hrow⟩ := hrel
      clear HR2
      by_cases hlt : k < n
      · have hx := Nat.mod_lt k (show 0 < p by omega)
        have hy : k / p < p := Nat.div_lt_of_lt_mul (by rw [← HPP.out]; exact hlt)
        have cT := l6Through_any (k % p) (k / p) p (by omega) (by omega) hx hy
        have em : (k : Int).tmod (p : Int) = ((k % p : Nat) : Int) := by rw [Int.tmod_eq_emod_of_nonneg (by omega)]; rfl
        have eq : (k : Int).tdiv (p : Int) = ((k / p : Nat) : Int) := by rw [Int.tdiv_eq_ediv_of_nonneg (by omega)]; rfl
        have HAt := hide (fun i => scn_at (p := p) (show 0 < p by omega) f k i)
        have hst := HStep.out k
        have hla := HLast.out k
        have hlt' := HLt.out k
        have HSt := hide hst
        have HLa := hide hla
        have HTl := hide hlt'
        have HZ := hide (scn_zero p f k)
        have HSr := hide (HS2.out.mark0 hN0 hkept hrow.v)
        have HK := hide hkept
        have HRow := hide hrow
        clear hst hla hlt' hkept hrow
        generalize k % p = x at *
        generalize k / p = y at *
        have wx : IntKind.i64.wrap (x : Int) = (x : Int) := by rw [IntKind.wrap_i64]; omega
        have wy : IntKind.i64.wrap (y : Int) = (y : Int) := by rw [IntKind.wrap_i64]; omega
        have HDr : Hid (Below wr.heap.size wr wr.drew) := (Below.refl _ _).drew
        go_upto_region 8 with fail
        go_region_with (go_at_call 45; refine (cT _).mono ?_; rintro e w3 ⟨a6, c6, b6, rfl, ow6, hb6, hbel6⟩)
        all_goals
          have HS3 := hide (HSr.out.drew.own hbel6 ow6.v hb6)
          have HK3 := hide (HK.out.trans (Kept.of_below (p := B) (HDr.out.trans hbel6)))
          have HRow3 : Hid (Row B NN (scn p f k 0) w3) := by rw [HZ.out]; exact (HSr.out.drew.next hbel6).ow _ (List.mem_cons_self ..) |>.resolve_left hN0 |>.2
          clear cT em eq hbel6 ow6 hb6 HSr HK HRow HZ wx wy HDr
          go_wp2_with fail
          go_loopw [7] (fun v wi => ∃ i : Nat, i ≤ p + 1 ∧ v = .int .i64 i ∧ Kept B w3 wi ∧ Row B NN (scn p f k i) wi) (fun v _ => p + 1 - (intOf v).toNat)
          case atStart => exact ⟨0, by omega, rfl, Kept.refl _ _, HRow3.out⟩
          case round =>
            obtain ⟨i, hi, rfl, hki, hri⟩ := hrel
            by_cases hlt2 : i < p + 1
            · have HSi := hide (HS3.out.mark (O1 := [_]) (by rw [bk_pos hN0]; exact hki) (by rw [bk_pos hN0]; exact hri.v))
              obtain ⟨i0, i1, i2⟩ := HSi.out.im3 0 rfl
              obtain ⟨_, _, hz6e, hz6⟩ := (HSi.out.nthO 0 rfl).px.at hlt2
              obtain ⟨_, _, hzpe, hzp⟩ := (HP.out.below HSi.out.below).at hlt
              cases hzpe
              subst hz6e
              have hql := HTl.out i (by omega)
              obtain ⟨hq1, hq2⟩ := hri _ hql
              rw [HAt.out i] at hq1
              have hf1 := HF.out k hlt
              have hsb := sct_bound (p := p) HF.out (l := Lnm.thr p x y i) (show k ≤ n by omega)
              have HSx := hide (HSt.out i)
              have HRu := hide (hri.upd hql (Lnm.sct p f (Lnm.thr p x y i) k + f k))
              unfold thF at hz6
              generalize Lnm.thr p x y i = q at *
              generalize Lnm.sct p f q k = X1 at *
              have HRx : Hid (Row B NN (scn p f k (i + 1)) (wr.setCell ⟨B, q, none⟩ (.int .i64 (X1 + f k))).drew) := HRu.out.congr (fun l _ => HSx.out l)
              have HKx : Hid (Kept B w3 (wr.setCell ⟨B, q, none⟩ (.int .i64 (X1 + f k))).drew) := (hki.setCell (a := ⟨B, q, none⟩) rfl _).drew
              generalize f k = X2 at *
              obtain ⟨X3, hX3⟩ : ∃ X3, X3 = X1 + X2 := ⟨_, rfl⟩
              have w3' : IntKind.i64.wrap (X1 + X2) = X3 := by rw [IntKind.wrap_i64]; omega
              rw [← hX3] at HRx HKx
              clear hX3 HRu HSx hsb hf1 hri hki HSi HS3 HK3 HRow3 HAt HTl HLa HSt HStep HLast HLt HLin HF HP HS2
              go_upto_region 12 with fail
              go_region_with (fail)
              all_goals
                generalize (wr.setCell ⟨B, q, none⟩ (.int .i64 X3)).drew = wz at *
                clear hz6 hzp hq1 hq2 i0 i1 i2
                go_wp2_with fail
                exact ⟨⟨i + 1, by omega, rfl, HKx.out, HRx.out⟩, by simp [intOf]; omega⟩
            · obtain rfl : i = p + 1 := by omega
              have HRn : Hid (Row B NN (fun l => Lnm.sct p f l (k + 1)) wr) := hri.congr (fun l hl => HLa.out l hl)
              have HKn := hide (HK3.out.trans hki)
              clear hri hki HS3 HK3 HRow3 HAt HTl HLa HSt HStep HLast HLt HLin HF HP HS2
              go_wp2_with fail
              exact ⟨⟨k + 1, by omega, rfl, HKn.out, HRn.out⟩, by simp [intOf]; omega⟩
      · obtain rfl : k = n := by omega
        have HSe := hide (HS2.out.mark0 hN0 hkept (hrow.congr (fun l _ => HLin.out l)).v)
        have HE : Hid (LsR NN (Lnm.lin p f) w (.returned (.slice (some ⟨B, 0, none⟩) NN NN)) wr) := ⟨_, _, B, rfl, (HSe.out.nthO 0 rfl).i, .inr (HSe.out.lt B (mem_blocks_own (List.mem_cons_self ..) hN0)).1, HSe.out.below⟩
        clear HStep HLast HLt HLin HF HP HS2 HSe hrow hkept
        go_wp2_with fail
        go_ret
        exact HE.out

end Go.Proofs.Ytedjnemijeaeoaa
