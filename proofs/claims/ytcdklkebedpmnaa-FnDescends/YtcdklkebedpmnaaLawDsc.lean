/- A drawn descent never rises: the law, walked. -/
import Derived.Test.YtcdklkebedpmnaaDcn
import Derived.Test.YtcdklkebedpmnaaIls
import Derived.Deep.Quiet
import Derived.BigQuiet
import Derived.Test.YtcdklkebedpmnaaDqd
import Derived.Test.YtcdklkebedpmnaaDci
import Derived.Test.YtcdklkebedpmnaaDcq
import Derived.Test.YtcdklkebedpmnaaCpy
import Derived.Test.YtcdklkebedpmnaaRwb
import Derived.Deep.DeepCutAuto
namespace Go.Proofs.Ytcdklkebedpmnaa
open Go.RowKit

/-- how far a tone moves, and what that takes off -/
theorem dcx_step {T s : Int} {y : Nat} (hy : 1 ≤ y) (hT : -4095 ≤ T ∧ T ≤ 4095) : (y : Int) * ((clp (T + nst s y) - T) * (clp (T + nst s y) - T)) - 2 * ((clp (T + nst s y) - T) * s) ≤ 0 := by
  have hpos : (0 : Int) < ((2 * y : Nat) : Int) := by omega
  have h1 := Int.emod_nonneg (2 * s + y) (show ((2 * y : Nat) : Int) ≠ 0 by omega)
  have h2 := Int.emod_lt_of_pos (2 * s + y) hpos
  have h3 := Int.emod_add_mul_ediv (2 * s + (y : Int)) ((2 * y : Nat) : Int)
  have hd : nst s y = (2 * s + y) / ((2 * y : Nat) : Int) := rfl
  rw [← hd] at h3
  generalize (2 * s + (y : Int)) % ((2 * y : Nat) : Int) = L at *
  generalize nst s y = d at *
  clear hd
  have hc : (0 ≤ d ∧ 0 ≤ clp (T + d) - T ∧ clp (T + d) - T ≤ d) ∨ (d ≤ 0 ∧ d ≤ clp (T + d) - T ∧ clp (T + d) - T ≤ 0) := by
    unfold clp
    split
    · omega
    · split <;> omega
  generalize clp (T + d) - T = δ at *
  have e : ((2 * y : Nat) : Int) * d = 2 * ((y : Int) * d) := by rw [Int.natCast_mul, Int.mul_assoc]; rfl
  rw [e] at h3
  have e2 : (y : Int) * (δ * δ) - 2 * (δ * s) = δ * ((y : Int) * δ - 2 * s) := by
    rw [Int.mul_sub, Int.mul_left_comm (y : Int) δ δ, Int.mul_left_comm 2 δ s]
  rw [e2]
  rcases hc with ⟨a1, a2, a3⟩ | ⟨a1, a2, a3⟩
  · by_cases h0 : δ = 0
    · rw [h0]; simp
    · have b1 : (y : Int) * δ ≤ (y : Int) * d := Int.mul_le_mul_of_nonneg_left a3 (by omega)
      have b2 : (y : Int) * 1 ≤ (y : Int) * d := Int.mul_le_mul_of_nonneg_left (by omega) (by omega)
      exact Int.mul_nonpos_of_nonneg_of_nonpos a2 (by omega)
  · by_cases h0 : δ = 0
    · rw [h0]; simp
    · have b1 : (y : Int) * d ≤ (y : Int) * δ := Int.mul_le_mul_of_nonneg_left a2 (by omega)
      have b2 : (y : Int) * d ≤ (y : Int) * -1 := Int.mul_le_mul_of_nonneg_left (by omega) (by omega)
      exact Int.mul_nonpos_of_nonpos_of_nonneg a3 (by omega)

/-- a sum over the lines through a place -/
theorem dcx_thr {p x y : Nat} (hx : x < p) (h : Nat → Int) : Lnm.sm (fun l => if Lnm.thr p x y (l / p) = l then h l else 0) ((p + 1) * p) = Lnm.sm (fun i => h (Lnm.thr p x y i)) (p + 1) := by
  have hp : 0 < p := by omega
  rw [Lnm.sm_rows]
  refine Lnm.sm_congr fun i _ => ?_
  have hd : Lnm.thr p x y i / p = i := Lnm.thr_div hx
  have hm := Nat.mod_lt (Lnm.thr p x y i) hp
  have he := Nat.div_add_mod (Lnm.thr p x y i) p
  rw [hd, Nat.mul_comm] at he
  have e1 : ∀ t, t < p → (if Lnm.thr p x y ((i * p + t) / p) = i * p + t then h (i * p + t) else 0) = (if t = Lnm.thr p x y i % p then h (Lnm.thr p x y i) else 0) := fun t ht => by
    rw [(Lnm.divmod (y := i) ht).2]
    by_cases e : t = Lnm.thr p x y i % p
    · rw [if_pos e, if_pos (by omega)]
      congr 1; omega
    · rw [if_neg e, if_neg (by omega)]
  rw [Lnm.sm_congr e1, Lnm.sm_one, if_pos hm]

/-- the misfit of an image -/
def mis (p m : Nat) (S F : Nat → Int) : Int := Lnm.sm (dsq S (Lnm.lin p F)) m
theorem mis_upd {p m : Nat} (hp : 0 < p) (hm : m = (p + 1) * p) (S F : Nat → Int) {k : Nat} (hk : k < p * p) (v : Int) :
    mis p m S (Lnm.upd F k v) = mis p m S F + ((p + 1 : Nat) * ((v - F k) * (v - F k)) - 2 * ((v - F k) * dcs p S F k)) := by
  have hx := Nat.mod_lt k hp
  have hy : k / p < p := Nat.div_lt_of_lt_mul hk
  have hkk : k / p * p + k % p = k := by rw [Nat.mul_comm]; exact Nat.div_add_mod k p
  have e1 : ∀ l, l < m → dsq S (Lnm.lin p (Lnm.upd F k v)) l = dsq S (Lnm.lin p F) l + (if Lnm.thr p (k % p) (k / p) (l / p) = l then (v - F k) * (v - F k) - 2 * ((v - F k) * rsl p S F l) else 0) := fun l _ => by
    have h2 := Lnm.lin_upd (p := p) (x0 := k % p) (y0 := k / p) hx hy F v l
    rw [hkk] at h2
    unfold dsq
    rw [h2]
    split
    · have er : rsl p S F l = S l - Lnm.lin p F l := rfl
      rw [er]
      generalize v - F k = d at *
      generalize Lnm.lin p F l = A at *
      generalize S l = B at *
      have : B - (A + d) = (B - A) - d := by omega
      rw [this]
      generalize B - A = C at *
      have e5 : (C - d) * (C - d) = C * C - d * C - (C * d - d * d) := by rw [Int.sub_mul, Int.mul_sub, Int.mul_sub]; omega
      rw [e5, Int.mul_comm C d]
      omega
    · rw [Int.add_zero, Int.add_zero]
  unfold mis
  rw [Lnm.sm_congr e1, Lnm.sm_add, hm, dcx_thr hx]
  congr 1
  rw [Lnm.sm_sub]
  have ec : Lnm.sm (fun _ => (v - F k) * (v - F k)) (p + 1) = ((p + 1 : Nat) : Int) * ((v - F k) * (v - F k)) := by
    have h := Lnm.sm_mul ((v - F k) * (v - F k)) (fun _ => 1) (p + 1)
    have h1 : ∀ n, Lnm.sm (fun _ => (1 : Int)) n = (n : Int) := fun n => by
      induction n with
      | zero => rfl
      | succ n ih => rw [Lnm.sm, ih]; rfl
    rw [h1] at h
    simp only [Int.mul_one] at h
    rw [h, Int.mul_comm]
  rw [ec, Lnm.sm_mul, Lnm.sm_mul]
  rfl
theorem mis_step {p m : Nat} (hp : 0 < p) (hm : m = (p + 1) * p) (S : Nat → Int) {F : Nat → Int} (hF : ∀ j, j < p * p → -4095 ≤ F j ∧ F j ≤ 4095) {k : Nat} (hk : k < p * p) : mis p m S (Lnm.upd F k (dcv p S F k)) ≤ mis p m S F := by
  rw [mis_upd hp hm S F hk]
  have h := dcx_step (s := dcs p S F k) (y := p + 1) (by omega) (hF k hk)
  have e : dcv p S F k = clp (F k + nst (dcs p S F k) (p + 1)) := rfl
  rw [← e] at h
  omega
theorem dcK_le {p m : Nat} (hp : 0 < p) (hm : m = (p + 1) * p) (S : Nat → Int) {F : Nat → Int} (hF : ∀ j, j < p * p → -4095 ≤ F j ∧ F j ≤ 4095) : ∀ k, k ≤ p * p → mis p m S (dcK p S F k) ≤ mis p m S F
  | 0, _ => Int.le_refl _
  | k + 1, hk => Int.le_trans (mis_step hp hm S (dcK_b hF k) hk) (dcK_le hp hm S hF k (by omega))
theorem dcT_le {p m : Nat} (hp : 0 < p) (hm : m = (p + 1) * p) (S : Nat → Int) {f : Nat → Int} (hf : ∀ j, j < p * p → -4095 ≤ f j ∧ f j ≤ 4095) (r : Nat) : dcT p m S f (r + 1) ≤ dcT p m S f r :=
  dcK_le hp hm S (dcR_b hf r) (p * p) (Nat.le_refl _)

end Go.Proofs.Ytcdklkebedpmnaa

namespace Go.Proofs.Ytcdklkebedpmnaa
open Go.RowKit

/-- a world that came out of another one by making memory -/
def Up (wb : World) : Type := { w' : World // Below wb.heap.size wb w' }
def Up.w {wb : World} (p : Up wb) : World := p.1
theorem Up.below {wb : World} (p : Up wb) : Below wb.heap.size wb p.w := p.2
theorem Up.cell {wb : World} (p : Up wb) {x : Addr} {v : Value} (h : wb.cell? x = some v) : p.w.cell? x = some v := (p.below.cell (World.block_lt_of_cell? _ _ h)).trans h
theorem up_ne (wb : World) : Nonempty (Up wb) := ⟨⟨wb, Below.refl _ _⟩⟩
theorem region_up {P : Program} {id : Nat} {Q : Exit → Act → World → Prop} {a : Act} {wb : World} {l : List Oper} (hm : P.follows .mixedOrders = true) (hB : Region.lexB .any l.toArray = true)
    (h : wpQuiet P l.toArray (fun w' => ∃ p : Up wb, w' = p.w) (fun a' => ∀ w', (∃ p : Up wb, w' = p.w) → Q .normal a' w') l a) : (Code.region id l.toArray true).wp P Q a wb :=
  wp_region_quiet (C := fun w' => ∃ p : Up wb, w' = p.w) hm hB ⟨⟨wb.drew, (Below.refl _ _).drew⟩, rfl⟩ (by simpa using h)
/-- a callee that makes memory alone -/
theorem calls_up {P : Program} {f : FuncId} {args : Array Value} {wb : World} {p : Up wb} {v : Value}
    (h : Calls P f args p.w fun e w' => e = .returned v ∧ Below p.w.heap.size p.w w') : Calls P f args p.w fun e w'' => e = .returned v ∧ ∃ q : Up wb, w'' = q.w :=
  h.mono fun _ w' ⟨he, hb⟩ => ⟨he, ⟨w', bnext p.below (Nat.le_refl _) hb⟩, rfl⟩

end Go.Proofs.Ytcdklkebedpmnaa

namespace Go.Proofs.Ytcdklkebedpmnaa
open Go.RowKit

set_option maxRecDepth 100000 in
set_option maxHeartbeats 8000000 in
theorem fnDescends_walk (c0 : Option Addr) (n0 k0 : Nat) (w : World) (hy0 : Bytes c0 n0 w) :
    Calls Try.prog 3 #[.slice c0 n0 k0] w fun e w' => e = .returned (.bool true) ∧ Below w.heap.size w w' := by
  have b0 := big_any c0 n0 k0
  have HY0 := hide hy0
  clear hy0
  go_enter Try.func3, Try.ntmps3
  go_wp2_with fail
  refine (b0 _).mono ?_
  rintro e w0 ⟨rfl, h1⟩
  obtain rfl := h1.symm
  by_cases g0 : 1048576 < n0
  · have d0 : decide (1048576 < n0) = true := by simp [g0]
    clear b0
    go_wp2_with fail
    go_ret
    exact ⟨rfl, Below.refl _ _⟩
  have d0 : decide (1048576 < n0) = false := by simp [g0]
  clear b0
  have cA := drawDescend_any c0 n0 k0 w HY0.out
  go_wp2_with fail
  refine cA.mono ?_
  rintro e w1 ⟨W, H, x, b, n, c, f, y, d, m, k, g, r, rfl, hn9, hm9, hox, hoy, hbx, hdy, hne, hb1⟩
  have hs1 := hb1.size
  have HS2 := hide (((St.start w).own2 hb1 hox.v hbx hoy.v hdy hne).box [.int .i64 W, .int .i64 H, .slice x n c] 26)
  simp only [List.toArray] at HS2
  clear cA hox hoy hbx hdy hne hb1 d0 g0 HY0
  go_upto_region 4 with fail
  generalize hw2 : w1.alloc (.cells #[.int .i64 W, .int .i64 H, .slice x n c] 26) = w2 at *
  clear hw2
  generalize w1.heap.size = X at *
  obtain ⟨x0, x1, x2⟩ := HS2.out.im3 0 rfl
  have cM := specMisfit_any W H x n c f (by omega) y m k g (by omega) w2 (HS2.out.nthO 1 rfl).px (HS2.out.nthO 0 rfl).px
  cases hq : msB W H n f m g
  · have hv : msV W H n f m g = -1 := by unfold msV; rw [if_neg (by rw [hq]; simp)]
    rw [hv] at cM
    clear hq hv
    go_wp2_with fail
    refine cM.mono ?_
    rintro e w3 ⟨rfl, hb⟩
    have HB := hide (HS2.out.next hb).below
    clear cM hb HS2 x0 x1 x2
    go_wp2_with fail
    go_ret
    exact ⟨rfl, HB.out⟩
  obtain ⟨h1, p, hW, hpr, hls, hm0, hN, hF, hd⟩ := msB_parts hq
  obtain ⟨q', hW', hH, hn, p1, p2, _, hf⟩ := toneB_parts h1
  obtain rfl : q' = p := by omega
  subst hW hH
  obtain ⟨hm, hg⟩ := lsB_parts hls
  have hn0 : 0 < n := by rw [hn]; exact Nat.mul_pos (by omega) (by omega)
  have hv0 := (dsq_sum (g := g) (l := Lnm.lin q' f) (show m ≤ 1048576 by omega) hd m (Nat.le_refl _)).1
  have hv : msV (q' : Int) (q' : Int) n f m g = dcT q' m g f 0 := by unfold msV; rw [if_pos hq, hF]; rfl
  rw [hv] at cM
  have hv1 : 0 ≤ dcT q' m g f 0 := hv0
  have HMS := hide (fun R => dc_mis hq (dcR_b (p := q') (S := g) hf R))
  have HLE := hide (fun R => dcT_le (p := q') (m := m) (show 0 < q' by omega) hm g (f := f) (fun j hj => hf j (by rw [hn]; exact hj)) R)
  obtain ⟨M, hM⟩ : ∃ M, M = dcT q' m g f 0 := ⟨_, rfl⟩
  rw [← hM] at cM hv1
  have HM := hide hM
  have hM0 : ¬ M < 0 := by omega
  have hdM : decide (M < 0) = false := decide_eq_false hM0
  have HQ := hide hq
  clear hq h1 hpr hls hN hF hd hn hf hm hg hv0 hv hM
  have cR : (r < 0 ∨ 20 < r) ∨ (0 ≤ r ∧ r ≤ 20) := by omega
  rcases cR with hr | hr
  · go_wp2_with fail
    refine cM.mono ?_
    rintro e w3 ⟨rfl, hb⟩
    have HB := hide (HS2.out.next hb).below
    clear cM hb HS2 x0 x1 x2
    rcases hr with hr | hr
    · have hdr : decide (r < 0) = true := decide_eq_true hr
      go_wp2_with fail
      go_ret
      exact ⟨rfl, HB.out⟩
    · have hdr : decide (r < 0) = false := decide_eq_false (by omega)
      have hdr2 : decide (20 < r) = true := decide_eq_true hr
      go_wp2_with fail
      go_ret
      exact ⟨rfl, HB.out⟩
  have hdr : decide (r < 0) = false := decide_eq_false (by omega)
  have hdr2 : decide (20 < r) = false := decide_eq_false (by omega)
  go_wp2_with fail
  refine cM.mono ?_
  rintro e w3 ⟨rfl, hb⟩
  have HS3 := hide (HS2.out.next hb)
  clear cM hb HS2 x0 x1 x2
  obtain ⟨x0, x1, x2⟩ := HS3.out.im3 0 rfl
  have cC := copyImage_any (q' : Int) (q' : Int) x n c f (by omega) hn0 w3 (HS3.out.nthO 1 rfl).px
  obtain ⟨ry, -⟩ := (HS3.out.nthO 0 rfl).resolve_left hm0
  subst ry
  go_wp2_with fail
  refine cC.mono ?_
  rintro e w4 ⟨b4, c4, rfl, hr4, hB4, hb4⟩
  have HS4 := hide (HS3.out.next hb4)
  have HR4 := hide hr4
  clear cC hb4 hr4 hB4 HS3 x0 x1 x2
  obtain ⟨i0, hi, hz0, hz1, hz2⟩ := info2
  have hrow := ((HS4.out.nthO 0 rfl).resolve_left hm0).2
  go_wp2_with (at_builtin; refine wpList_append_own _ rfl _ _ 24 rfl w4.heap.size 2 i0 (.int .i64 0) 1 8 Try.underlying24 hi hz0 hz1 hz2 rfl (by decide) _ _ _ rfl (World.ownsRow_made w4 #[] 0 (Nat.le_refl _) (Nat.zero_le _) rfl) ⟨d, 0, none⟩ m k (ints (fl g m)) rfl ?qc1 ?qc2 ?qc3 ?qc4 ?qc5 ?qc6 ?_)
  case qc1 => simp [ints, fl_len]
  case qc2 =>
    intro j u hj
    obtain ⟨hj', rfl⟩ := ints_fl g m j u hj
    rw [Addr.add_lit, Nat.zero_add]
    exact Lib.cell?_alloc_some _ (hrow j hj').1
  case qc3 => intro u hu; simp [ints] at hu; obtain ⟨x, _, rfl⟩ := hu; rfl
  case qc4 => unfold maxLen; omega
  case qc5 => omega
  case qc6 => simp
  intro v' w5 hown hgrow hnil
  have hown' : w5.ownsRow w4.heap.size 2 1 v' m (ints (fl g m)) := by simpa using hown
  have hb5 : Below w4.heap.size w4 w5 := ((Below.refl _ w4).alloc (Nat.le_refl _) _).grown hgrow (by simp) (by intro k hk; simp [Value.ownBlock] at hk; omega)
  obtain ⟨a5, c5, b5, rfl, ho5, -⟩ := ow_fl hown'
  have HS5 := hide (HS4.out.next hb5)
  have cI := implDescend_any (q' : Int) (q' : Int) (some ⟨b4, 0, none⟩) n c4 f (by omega) a5 m c5 g (by omega) r w5 (HR4.out.px.below hb5) ho5.px
  have hdc : dcB (q' : Int) (q' : Int) n f m g r = true := by unfold dcB; rw [HQ.out, inB_iff6.2 (by omega)]; rfl
  rw [hdc] at cI
  simp only [if_true] at cI
  rw [Int.toNat_natCast] at cI
  obtain ⟨R, rfl⟩ : ∃ R : Nat, r = (R : Int) := ⟨r.toNat, by omega⟩
  rw [Int.toNat_natCast] at cI
  unfold DcA at cI
  clear hown hown' hgrow hnil hb5 ho5 hrow hi hz0 hz1 hz2 HS4 HR4 hdc hdr hdr2 hdM
  go_wp2_with fail
  refine cI.mono ?_
  rintro e w6 ⟨a0, e0, o0, a1, e1, o1, rfl, ho, h1, ho2, h2, hne, hb⟩
  have HS6 := hide ((HS5.out.own2 hb ho.v h1 ho2.v h2 hne).box [.int .i64 q', .int .i64 q', .slice a0 n e0] 26)
  simp only [List.toArray] at HS6
  clear cI ho h1 ho2 h2 hne hb HS5
  go_upto_region 8 with fail
  generalize hw7 : w6.alloc (.cells #[.int .i64 q', .int .i64 q', .slice a0 n e0] 26) = w7 at *
  clear hw7
  generalize w6.heap.size = O at *
  obtain ⟨ra, hrt⟩ := (HS6.out.nthO 0 rfl).resolve_left (show R + 1 ≠ 0 by omega)
  subst ra
  have HT := hide hrt
  obtain ⟨Z, hZ⟩ : ∃ Z, Z = dcT q' m g f R := ⟨_, rfl⟩
  have cQ : ∀ pp : Up w7, Calls Try.prog 7 #[im q' q' a0 n e0, .slice (some ⟨d, 0, none⟩) m k] pp.w fun e w' => e = .returned (.int .i64 Z) ∧ Below pp.w.heap.size pp.w w' := fun pp => by
    have c := specMisfit_any (q' : Int) (q' : Int) a0 n e0 (dcR q' g f R) (by omega) (some ⟨d, 0, none⟩) m k g (by omega) pp.w ((HS6.out.next pp.below).nthO 1 rfl).px ((HS6.out.next pp.below).nthO 2 rfl).px
    rw [HMS.out R] at c
    rw [hZ]
    exact c
  have t0 : w7.cell? ⟨o1, 0, none⟩ = some (.int .i64 M) := by rw [HM.out]; exact (hrt 0 (by omega)).1
  have tR : w7.cell? ⟨o1, R, none⟩ = some (.int .i64 Z) := by rw [hZ]; exact (hrt R (by omega)).1
  go_cut [62] (fun sl wd => sl = .bool false ∧ Below w7.heap.size w7 wd)
  case first =>
    obtain ⟨z0, z1, z2⟩ := HS6.out.im3 0 rfl
    have ut0 := fun pp : Up w7 => pp.cell t0
    have utR := fun pp : Up w7 => pp.cell tR
    have uz0 := fun pp : Up w7 => pp.cell z0
    have uz1 := fun pp : Up w7 => pp.cell z1
    have uz2 := fun pp : Up w7 => pp.cell z2
    have wR1 : IntKind.i64.wrap ((R : Int) + 1) = (R : Int) + 1 := by rw [IntKind.wrap_i64]; omega
    have eR1 : ((R : Int) + 1 != (R : Int) + 1) = false := by simp
    have eM : (M != M) = false := by simp
    have eZ : (Z != Z) = false := by simp
    have hR1 : R < R + 1 := by omega
    clear hZ hrt
    refine region_up (by kernel_rfl) (by kernel_rfl) ?_
    repeat (go_big_quiet_step (first
      | exact rfl
      | (go_at_call 7; exact calls_up (cQ _))))
    refine wpQuiet_nil ?_
    intro _ hw2
    obtain ⟨pq, hw3⟩ := hw2
    subst hw3
    go_wp2_with fail
    go_meet
    exact ⟨rfl, pq.below⟩
  case rest =>
  obtain ⟨rfl, hb8⟩ := hcut
  obtain ⟨w8, hw8⟩ : ∃ w8, w8 = wc := ⟨_, rfl⟩
  rw [← hw8] at hb8
  rw [← hw8]
  clear hw8 t0 tR cQ hZ hrt
  have HB8 := hide (HS6.out.next hb8).below
  have HR8 : Hid (Row o1 (R + 1) (dcT q' m g f) w8) := HT.out.below hb8 (World.block_lt_of_cell? w7 _ (HT.out 0 (by omega)).1)
  clear hb8 HS6 HT HMS HM HQ
  go_wp2_with fail
  go_loopw [9] (fun i wr => ∃ j t : Nat, j ≤ R ∧ i = .int .i64 (j + 1 : Nat) ∧ wr = w8.drewN t) (fun i _ => R + 1 - (intOf i).toNat)
  case atStart => exact ⟨0, 0, by omega, rfl, rfl⟩
  case round =>
    obtain ⟨j, t, hj, rfl, rfl⟩ := hrel
    obtain ⟨K, hK⟩ : ∃ K, K = j + 1 := ⟨_, rfl⟩
    rw [← hK]
    by_cases hlt : j < R
    · have tK : w8.cell? ⟨o1, K, none⟩ = some (.int .i64 (dcT q' m g f K)) := (HR8.out K (by omega)).1
      have tJ : w8.cell? ⟨o1, j, none⟩ = some (.int .i64 (dcT q' m g f j)) := (HR8.out j (by omega)).1
      have hle := HLE.out j
      rw [← hK] at hle
      have wK : IntKind.i64.wrap ((K : Int) - 1) = (j : Int) := by rw [IntKind.wrap_i64]; omega
      have hdd : decide (dcT q' m g f j < dcT q' m g f K) = false := decide_eq_false (by omega)
      have hK1 : K < R + 1 := by omega
      have hj1 : j < R + 1 := by omega
      have HF : Hid (j + 1 ≤ R ∧ K + 1 = j + 1 + 1) := ⟨by omega, by omega⟩
      clear hle HLE HR8 hK
      generalize dcT q' m g f K = A1 at *
      generalize dcT q' m g f j = A2 at *
      have hKi : (K : Int) < (R : Int) + 1 := by omega
      go_upto_region 13 with fail
      go_quiet (fail)
      go_wp2_with fail
      exact ⟨⟨j + 1, _, HF.out.1, by rw [← HF.out.2]; rfl, rfl⟩, by simp [intOf]; have := HF.out; omega⟩
    · obtain rfl : j = R := by omega
      subst hK
      clear HLE HR8
      go_wp2_with fail
      go_ret
      exact ⟨rfl, below_drewN HB8.out _⟩

end Go.Proofs.Ytcdklkebedpmnaa
