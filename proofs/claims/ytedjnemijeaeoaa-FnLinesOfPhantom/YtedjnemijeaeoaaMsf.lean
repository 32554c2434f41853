/- Misfits: the specification and the program. -/
import Derived.Test.YtedjnemijeaeoaaLni
import Derived.Deep.RegionHeld
namespace Go.Proofs.Ytedjnemijeaeoaa
open Go.RowKit Go.Shelf

/-- are these line sums of side p -/
def lsB (p m : Nat) (g : Nat → Int) : Bool := decide (m = (p + 1) * p) && alW g (-200000) 200000 m
/-- the square of a difference -/
def dsq (g h : Nat → Int) (k : Nat) : Int := (g k - h k) * (g k - h k)
/-- what Misfit answers -/
def msB (W H : Int) (n : Nat) (f : Nat → Int) (m : Nat) (g : Nat → Int) : Bool := toneB W H n f && lsB W.toNat m g
def msV (W H : Int) (n : Nat) (f : Nat → Int) (m : Nat) (g : Nat → Int) : Int := if msB W H n f m g = true then Lnm.sm (dsq g (lnF W f)) m else -1

theorem lsB_parts {p m : Nat} {g : Nat → Int} (h : lsB p m g = true) : m = (p + 1) * p ∧ ∀ k, k < m → -200000 ≤ g k ∧ g k ≤ 200000 := by
  unfold lsB at h
  simp only [Bool.and_eq_true, decide_eq_true_eq] at h
  refine ⟨h.1, fun k hk => ?_⟩
  have := alW_at h.2 hk
  unfold inB at this
  simpa using this
theorem lin_bound {p : Nat} {f : Nat → Int} (hp : 0 < p) (hp2 : p ≤ 31) (hf : ∀ k, k < p * p → -4095 ≤ f k ∧ f k ≤ 4095) (l : Nat) : -126945 ≤ Lnm.lin p f l ∧ Lnm.lin p f l ≤ 126945 := by
  have := Lnm.sm_bound (f := fun j => f (Lnm.plc p l j)) (M := 4095) (n := p) (fun j hj => hf _ (plc_lt hp hj))
  unfold Lnm.lin
  omega

set_option maxHeartbeats 1000000 in
theorem areLineSums_any (p : Nat) (hp : p ≤ 64) (a : Option Addr) (m cap : Nat) (g : Nat → Int) (hl : m ≤ 1048576) (w : World) (h : Px a m g w) :
    Calls Try.prog 34 #[.slice a m cap, .int .i64 p] w fun e w' => e = .returned (.bool (lsB p m g)) ∧ w' = w := by
  have cC := lineCount_any p hp
  rw [show ((p : Int) + 1) * (p : Int) = (((p + 1) * p : Nat) : Int) by rw [Int.natCast_mul]; rfl] at cC
  have cA := allWithin_any (-200000) 200000 a m cap g hl w h
  unfold lsB
  generalize (p + 1) * p = NN at *
  clear h
  by_cases hm : m = NN
  · subst hm
    have hE : ((m : Int) == (m : Int)) = true := by simp
    generalize alW g (-200000) 200000 m = V at *
    go_enter Try.func34, Try.ntmps34
    go_wp2_with fail
    refine (cC _).mono ?_
    rintro e w1 ⟨rfl, rfl⟩
    go_wp2_with fail
    refine cA.mono ?_
    rintro e w1 ⟨rfl, rfl⟩
    go_wp2_with fail
    go_ret
    exact ⟨by simp, rfl⟩
  · have hE : ((m : Int) == (NN : Int)) = false := by simp; omega
    rw [decide_eq_false hm]
    clear hm cA
    go_enter Try.func34, Try.ntmps34
    go_wp2_with fail
    refine (cC _).mono ?_
    rintro e w1 ⟨rfl, rfl⟩
    go_wp2_with fail
    go_ret
    exact ⟨by simp, rfl⟩

theorem sdv_inv {m : Nat} {p : Nat} (hp : priB (p : Int) = true) (h : sdv (m : Int) = (p : Int)) : m = (p + 1) * p := by
  obtain ⟨q, hq, q1, q2, _⟩ := priB_nat hp
  have hq' : q = p := by omega
  subst hq'
  unfold sdv at h
  repeat' split at h
  all_goals (first | (have : q = 2 := by omega); subst this; omega | (have : q = 3 := by omega); subst this; omega | (have : q = 5 := by omega); subst this; omega | (have : q = 7 := by omega); subst this; omega | (have : q = 11 := by omega); subst this; omega | (have : q = 13 := by omega); subst this; omega | (have : q = 17 := by omega); subst this; omega | (have : q = 19 := by omega); subst this; omega | (have : q = 23 := by omega); subst this; omega | (have : q = 29 := by omega); subst this; omega | (have : q = 31 := by omega); subst this; omega | omega)

/-- the side of line sums, or 0 -/
def l6sV (m : Nat) (g : Nat → Int) : Int := if alW g (-200000) 200000 m = true then sdv (m : Int) else 0
theorem l6sV_eq {m : Nat} {g : Nat → Int} {p : Nat} (hp : priB (p : Int) = true) : (l6sV m g != (p : Int)) = !(lsB p m g) := by
  obtain ⟨q, hq, q1, q2, _⟩ := priB_nat hp
  unfold l6sV lsB
  cases alW g (-200000) 200000 m
  · simp; omega
  · rw [if_pos rfl]
    by_cases h : m = (p + 1) * p
    · have e : sdv (m : Int) = p := by rw [h, Int.natCast_mul]; exact sdv_yes hp
      rw [e]; simp [h]
    · have e : sdv (m : Int) ≠ p := fun e => h (sdv_inv hp e)
      simp [e, h]

set_option maxRecDepth 100000 in
set_option maxHeartbeats 1000000 in
theorem l6Sums_any (a : Option Addr) (m cap : Nat) (g : Nat → Int) (hl : m ≤ 1048576) (w : World) (h : Px a m g w) :
    Calls Try.prog 44 #[.slice a m cap] w fun e w' => e = .returned (.int .i64 (l6sV m g)) ∧ w' = w := by
  have cS := specSideOf_any (m : Int)
  have HP := hide h
  obtain ⟨R, hR⟩ : ∃ R, R = l6sV m g := ⟨_, rfl⟩
  rw [← hR]
  have HR := hide hR
  unfold l6sV at HR
  clear hR
  generalize sdv (m : Int) = V at *
  clear h
  go_enter Try.func44, Try.ntmps44
  go_wp2_with fail
  refine (cS _).mono ?_
  rintro e w1 ⟨rfl, rfl⟩
  clear cS
  go_wp2_with fail
  go_loop [4] (fun i => ∃ k : Nat, k ≤ m ∧ i = .int .i64 k ∧ alW g (-200000) 200000 k = true) (fun i => m - (intOf i).toNat)
  case atStart => exact ⟨0, by omega, rfl, rfl⟩
  case round =>
    obtain ⟨k, hk, rfl, ha⟩ := hrel
    by_cases hlt : k < m
    · obtain ⟨b, off, rfl, hz⟩ := HP.out.at hlt
      have hcall := l1In_any (g k) (-200000) 200000
      clear HP
      cases hi' : inB (g k) (-200000) 200000
      · have HF : Hid (alW g (-200000) 200000 m = false) := alW_false hlt hi'
        rw [hi'] at hcall
        have HR0 : Hid (R = 0) := by show R = 0; rw [HR.out, HF.out]; rfl
        clear ha hi' HR HF
        go_wp2_with fail
        refine (hcall _).mono ?_
        rintro e w' ⟨rfl, rfl⟩
        go_wp2_with fail
        go_ret
        exact ⟨by rw [HR0.out]; rfl, rfl⟩
      · have HF : Hid (alW g (-200000) 200000 (k + 1) = true) := alW_step ha hi'
        rw [hi'] at hcall
        clear ha hi'
        go_wp2_with fail
        refine (hcall _).mono ?_
        rintro e w' ⟨rfl, rfl⟩
        go_wp2_with fail
        exact ⟨⟨k + 1, by omega, rfl, HF.out⟩, by simp [intOf]; omega⟩
    · obtain rfl : k = m := by omega
      have HA : Hid (alW g (-200000) 200000 k = true) := ha
      have HR0 : Hid (R = V) := by show R = V; rw [HR.out, HA.out]; rfl
      clear ha HP HR HA
      go_wp2
      go_ret
      exact ⟨by rw [HR0.out]; rfl, rfl⟩

set_option maxRecDepth 100000 in
set_option maxHeartbeats 2000000 in
theorem differences_any (a a' : Option Addr) (m cap cap' : Nat) (g h : Nat → Int) (hl : m ≤ 1048576) (hgh : ∀ k, k < m → -1000000000 ≤ g k - h k ∧ g k - h k ≤ 1000000000) (w : World) (pg : Px a m g w) (ph : Px a' m h w) :
    Calls Try.prog 40 #[.slice a m cap, .slice a' m cap'] w fun e w' => e = .returned (.slice (some ⟨w.heap.size, 0, none⟩) m m) ∧ Row w.heap.size m (fun k => g k - h k) w' ∧ Below w.heap.size w w' ∧ w.heap.size < w'.heap.size := by
  have hmk := make_px m hl w
  have HG := hide pg
  have HH := hide ph
  have HD := hide hgh
  clear pg ph hgh
  go_enter Try.func40, Try.ntmps40
  go_wp2_with fail
  go_loopw [6, 12] (fun _ i wr => ∃ k : Nat, k ≤ m ∧ i = .int .i64 k ∧ Part w.heap.size m k (fun k => g k - h k) wr ∧ Below w.heap.size w wr ∧ w.heap.size < wr.heap.size) (fun _ i _ => m - (intOf i).toNat)
  case atStart => exact ⟨0, by omega, rfl, (row_new m w).part, (Below.refl _ _).alloc (Nat.le_refl _) _, by simp⟩
  case round =>
    obtain ⟨k, hk, rfl, hp, hb, hs⟩ := hrel
    clear hmk
    by_cases hlt : k < m
    · obtain ⟨b, off, rfl, hz⟩ := (HG.out.below hb).at hlt
      obtain ⟨b', off', rfl, hz'⟩ := (HH.out.below hb).at hlt
      obtain ⟨⟨y, hy, _⟩, fr⟩ := hp k hlt
      have hd := HD.out k hlt
      have wD : IntKind.i64.wrap (g k - h k) = g k - h k := by rw [IntKind.wrap_i64]; omega
      have HPt := hide (hp.step hlt (g k - h k) rfl).drew
      have HBt : Hid (Below w.heap.size w (wr.setCell ⟨w.heap.size, k, none⟩ (.int .i64 (g k - h k))).drew) := (hb.setCell (Nat.le_refl _) _).drew
      have HSt : Hid (w.heap.size < (wr.setCell ⟨w.heap.size, k, none⟩ (.int .i64 (g k - h k))).drew.heap.size) := by show _ < (wr.setCell _ _).heap.size; simpa using hs
      clear hp hb hs HG HH HD hd
      generalize g k = G1 at *
      generalize h k = H1 at *
      obtain ⟨D, hD⟩ : ∃ D, D = G1 - H1 := ⟨_, rfl⟩
      have wD' : IntKind.i64.wrap (G1 - H1) = D := by rw [wD, hD]
      rw [← hD] at HPt HBt HSt
      clear wD hD
      go_upto_region 5 with fail
      go_region_with (fail)
      all_goals
        generalize (wr.setCell ⟨w.heap.size, k, none⟩ (.int .i64 D)).drew = wz at *
        clear hz hz' hy fr wD'
        go_wp2_with fail
        exact ⟨⟨k + 1, by omega, rfl, HPt.out, HBt.out, HSt.out⟩, by simp [intOf]; omega⟩
    · obtain rfl : k = m := by omega
      clear HG HH HD
      go_wp2
      go_ret
      exact ⟨rfl, hp.row, hb, hs⟩

set_option maxRecDepth 100000 in
set_option maxHeartbeats 2000000 in
/-- the sum of squares -/
theorem total_squares (a : Option Addr) (m cap : Nat) (d : Nat → Int) (h0 : m ≠ 0) (hl : m ≤ 1048576) (hd : ∀ k, k < m → -1000000 ≤ d k ∧ d k ≤ 1000000) (w : World) (Bs : Nat) (hc : w.cell? ⟨Bs, 0, none⟩ = some (.slice a m cap)) (px : Px a m d w) :
    Calls Try.prog 30 #[.func (.func 60) #[] #[.pointer (some ⟨Bs, 0, none⟩)]] w fun e w' => e = .returned (.int .i64 (Lnm.sm (fun k => d k * d k) m)) ∧ Below w.heap.size w w' := by
  have hsq : ∀ k, k < m → 0 ≤ d k * d k ∧ d k * d k ≤ 1000000000000 := fun k hk => by
    obtain ⟨h1, h2⟩ := hd k hk
    refine ⟨by rcases Int.le_total 0 (d k) with h | h; exact Int.mul_nonneg h h; exact Int.mul_nonneg_of_nonpos_of_nonpos h h, ?_⟩
    rcases Int.le_total 0 (d k) with h | h
    · exact Int.mul_le_mul h2 h2 h (by omega)
    · have : d k * d k = (-d k) * (-d k) := by rw [Int.neg_mul_neg]
      rw [this]
      have h5 := Int.mul_le_mul (show -d k ≤ 1000000 by omega) (show -d k ≤ 1000000 by omega) (show 0 ≤ -d k by omega) (show (0 : Int) ≤ 1000000 by omega)
      omega
  have hblk : ∀ q : Addr, a = some q → m ≠ 0 → q.block < w.heap.size := by
    intro q hq h0
    obtain ⟨b, off, ha, hlt⟩ := px.lt (by omega)
    rw [hq] at ha
    cases ha
    exact hlt
  have fe : ∀ n, n ≤ m → fl (fun k => IntKind.i64.wrap (d k * d k)) n = fl (fun k => d k * d k) n := by
    intro n
    induction n with
    | zero => intro _; rfl
    | succ n ih =>
      intro hn
      show _ ++ [_] = _ ++ [_]
      rw [ih (by omega)]
      congr 2
      have := hsq n (by omega)
      show IntKind.i64.wrap (d n * d n) = d n * d n
      rw [IntKind.wrap_i64]; omega
  have h2 := squares_gv a m cap Bs d (· < w.heap.size) w hl hc px (fun p e => hblk p e h0)
  have h3 := total_any 60 _ _ (· < w.heap.size) w h2 (enters_of Try.func60 (by kernel_rfl) rfl) (fun _ h => h)
  rw [fe m (Nat.le_refl _), sumW_sm (M := 1000000000000) (by omega) hl (fun k hk => by have := hsq k hk; omega)] at h3
  exact h3

end Go.Proofs.Ytedjnemijeaeoaa
