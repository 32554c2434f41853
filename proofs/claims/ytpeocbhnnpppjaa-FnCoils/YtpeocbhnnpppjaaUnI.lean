/- Unfolding: the program, where it can be. -/
import Derived.Test.YtpeocbhnnpppjaaUnf
import Derived.Deep.RegionHeld
namespace Go.Proofs.Ytpeocbhnnpppjaa
open Go.RowKit

theorem allS {f : Nat → Int} : ∀ {n : Nat}, allB f n = true → ∀ k, k < n → Sm (f k)
  | n + 1, h, k, hk => by
    simp only [allB, Bool.and_eq_true] at h
    by_cases e : k = n
    · have := h.2
      unfold inB at this
      simp only [Bool.and_eq_true, decide_eq_true_eq] at this
      rw [e]; exact this
    · exact allS h.1 k (by omega)

/-- the two residues at place k, and whether they can be told apart -/
def uA (Q : Nat) (_f0 _f1 f2 f3 : Nat → Int) (k : Nat) : Int := crs (f2 k) (f2 (k + Q)) (f3 k) (f3 (k + Q))
def u1 (Q : Nat) (f0 f1 f2 f3 : Nat → Int) (k : Nat) : Int := slv1 (f2 k) (f2 (k + Q)) (f3 k) (f3 (k + Q)) (f0 k) (f1 k)
def u2 (Q : Nat) (f0 f1 f2 f3 : Nat → Int) (k : Nat) : Int := slv2 (f2 k) (f2 (k + Q)) (f3 k) (f3 (k + Q)) (f0 k) (f1 k)
/-- the pixels, the first q places done -/
def curF (Q : Nat) (f0 f1 f2 f3 : Nat → Int) (q j : Nat) : Int := if j < Q then (if j < q then u1 Q f0 f1 f2 f3 j else 0) else (if j - Q < q then u2 Q f0 f1 f2 f3 (j - Q) else 0)
/-- how many places of the first q are not told apart -/
def cntF (Q : Nat) (f0 f1 f2 f3 : Nat → Int) : Nat → Nat
  | 0 => 0
  | q + 1 => cntF Q f0 f1 f2 f3 q + (if uA Q f0 f1 f2 f3 q = 0 then 1 else 0)
theorem cntF_le (Q : Nat) (f0 f1 f2 f3 : Nat → Int) : ∀ q, cntF Q f0 f1 f2 f3 q ≤ q
  | 0 => Nat.le_refl _
  | q + 1 => by
    have := cntF_le Q f0 f1 f2 f3 q
    unfold cntF
    split <;> omega
theorem curF_step {Q : Nat} {f0 f1 f2 f3 : Nat → Int} {q : Nat} (hq : q < Q) : curF Q f0 f1 f2 f3 (q + 1) = fun j => if j = q + Q then u2 Q f0 f1 f2 f3 q else if j = q then u1 Q f0 f1 f2 f3 q else curF Q f0 f1 f2 f3 q j := by
  funext j
  unfold curF
  by_cases h1 : j < Q
  · rw [if_pos h1, if_pos h1, if_neg (show ¬ j = q + Q by omega)]
    by_cases h2 : j = q
    · subst h2
      rw [if_pos (by omega), if_pos rfl]
    · rw [if_neg h2]
      by_cases h3 : j < q
      · rw [if_pos h3, if_pos (by omega)]
      · rw [if_neg h3, if_neg (by omega)]
  · rw [if_neg h1, if_neg h1]
    by_cases h2 : j = q + Q
    · subst h2
      rw [if_pos rfl, if_pos (by omega)]
      congr 1; omega
    · rw [if_neg h2, if_neg (show ¬ j = q by omega)]
      by_cases h3 : j - Q < q
      · rw [if_pos h3, if_pos (by omega)]
      · rw [if_neg h3, if_neg (by omega)]
theorem curF_same {Q : Nat} {f0 f1 f2 f3 : Nat → Int} {q : Nat} (hq : q < Q) (h0 : uA Q f0 f1 f2 f3 q = 0) : curF Q f0 f1 f2 f3 (q + 1) = curF Q f0 f1 f2 f3 q := by
  have e1 : u1 Q f0 f1 f2 f3 q = 0 := if_pos h0
  have e2 : u2 Q f0 f1 f2 f3 q = 0 := if_pos h0
  rw [curF_step hq, e1, e2]
  funext j
  unfold curF
  by_cases h2 : j = q + Q
  · subst h2
    rw [if_pos rfl, if_neg (by omega), if_neg (by omega)]
  · rw [if_neg h2]
    by_cases h3 : j = q
    · subst h3
      rw [if_pos rfl, if_pos hq, if_neg (by omega)]
    · rw [if_neg h3]

theorem Below.keep {w w' : World} (hb : Below w.heap.size w w') {p : Addr} {v : Value} (h : w.cell? p = some v) : w'.cell? p = some v := by
  rw [hb.cell (World.block_lt_of_cell? w p h)]; exact h
theorem St.put {w0 : World} {L : List BoxT} {O : List OwnT} {w : World} {b n : Nat} {f : Nat → Value} (h : St w0 L ((some ⟨b, 0, none⟩, b, n, f) :: O) w) {k : Nat} (hk : k < n) (v : Value) :
    St w0 L ((some ⟨b, 0, none⟩, b, n, fun j => if j = k then v else f j) :: O) (w.setCell ⟨b, k, none⟩ v) := by
  refine h.mark0 (by omega) ((Kept.refl b w).setCell rfl v) ?_
  have hr : RowV b n f w := by
    rcases h.nthO 0 rfl with h0 | h0
    · intro q hq; omega
    · exact h0.2
  refine .inr ⟨rfl, fun q hq => ⟨?_, by simpa using (hr q hq).2⟩⟩
  by_cases e : q = k
  · subst e
    simp only [if_true]
    exact World.cell?_setCell_same _ _ _ (hr q hq).1
  · simp only [if_neg e]
    rw [World.cell?_setCell_other _ _ _ _ (by simp; try omega)]
    exact (hr q hq).1

set_option maxRecDepth 100000 in
set_option maxHeartbeats 4000000 in
theorem implUnfold_yes (W H H2 : Int) (Q K : Nat) (hK : K = 2 * Q) (hH2 : H2 = 2 * H) (hQ : 1 ≤ Q) (hQ2 : Q ≤ 2048) (a0 : Option Addr) (cap0 : Nat) (f0 : Nat → Int) (a1 : Option Addr) (cap1 : Nat) (f1 : Nat → Int) (a2 : Option Addr) (cap2 : Nat) (f2 : Nat → Int) (a3 : Option Addr) (cap3 : Nat) (f3 : Nat → Int) (w : World) (h0 : Px a0 Q f0 w) (h1 : Px a1 Q f1 w) (h2 : Px a2 K f2 w) (h3 : Px a3 K f3 w) (hq0 : okB W H Q f0 = true) (hq1 : okB W H Q f1 = true) (hq2 : okB W H2 K f2 = true) (hq3 : okB W H2 K f3 = true) :
    Calls Try.prog 9 #[im W H a0 Q cap0, im W H a1 Q cap1, im W H2 a2 K cap2, im W H2 a3 K cap3] w (ImRI W H2 K (curF Q f0 f1 f2 f3 Q) (cntF Q f0 f1 f2 f3 Q) w) := by
  have hA0 := implOk_any W H a0 Q cap0 f0 (by omega)
  rw [hq0] at hA0
  have HP0 := hide h0
  have HA0 := hide (okB_parts hq0).2.2.2
  obtain ⟨b0, o0, rfl, _⟩ := h0.lt (by omega)
  have hA1 := implOk_any W H a1 Q cap1 f1 (by omega)
  rw [hq1] at hA1
  have HP1 := hide h1
  have HA1 := hide (okB_parts hq1).2.2.2
  obtain ⟨b1, o1, rfl, _⟩ := h1.lt (by omega)
  have hA2 := implOk_any W H2 a2 K cap2 f2 (by omega)
  rw [hq2] at hA2
  have HP2 := hide h2
  have HA2 := hide (okB_parts hq2).2.2.2
  obtain ⟨b2, o2, rfl, _⟩ := h2.lt (by omega)
  have hA3 := implOk_any W H2 a3 K cap3 f3 (by omega)
  rw [hq3] at hA3
  have HP3 := hide h3
  have HA3 := hide (okB_parts hq3).2.2.2
  obtain ⟨b3, o3, rfl, _⟩ := h3.lt (by omega)
  have HS0 := hide (St.five w W H (.slice (some ⟨b0, o0, none⟩) Q cap0) W H (.slice (some ⟨b1, o1, none⟩) Q cap1) W H2 (.slice (some ⟨b2, o2, none⟩) K cap2) W H2 (.slice (some ⟨b3, o3, none⟩) K cap3))
  have cz1 := sameSize_any W H (some ⟨b0, o0, none⟩) Q cap0 W H (some ⟨b1, o1, none⟩) Q cap1
  have cz2 := sameSize_any W H2 (some ⟨b2, o2, none⟩) K cap2 W H2 (some ⟨b3, o3, none⟩) K cap3
  rw [decide_eq_true rfl, decide_eq_true rfl] at cz1 cz2
  obtain ⟨s1, s2⟩ := side_bounds (okB_parts hq0).2.1
  have hw2 : IntKind.i64.wrap (2 * H) = H2 := by rw [IntKind.wrap_i64]; omega
  have t3' : (W != W) = false := by simp
  have t4' : (H2 != H2) = false := by simp
  have hwK : IntKind.i64.wrap (2 * (Q : Int)) = (K : Int) := by rw [IntKind.wrap_i64]; omega
  have HKQ := hide hK
  have hK4 : K ≤ 4096 := by omega
  clear h0 h1 h2 h3 hq0 hq1 hq2 hq3 hH2 hK s1 s2
  go_enter Try.func9, Try.ntmps9
  go_wp2_with fail
  refine (hA0 _ (HP0.out.below HS0.out.below)).mono ?_
  rintro e wq0 ⟨rfl, hb⟩
  have HS1 := hide (HS0.out.next hb)
  clear hb HS0 hA0
  obtain ⟨i0, i1, i2⟩ := HS1.out.im3 4 rfl
  obtain ⟨j0, j1, j2⟩ := HS1.out.im3 3 rfl
  obtain ⟨k0, k1, k2⟩ := HS1.out.im3 2 rfl
  obtain ⟨l0, l1, l2⟩ := HS1.out.im3 1 rfl
  obtain ⟨z0, z1, z2⟩ := HS1.out.im3 0 rfl
  obtain ⟨e0, e1, e2⟩ := HS1.out.fr3 0 rfl
  go_wp2_with fail
  refine (hA1 _ (HP1.out.below HS1.out.below)).mono ?_
  rintro e wq1 ⟨rfl, hb⟩
  have HS2 := hide (HS1.out.next hb)
  clear hb HS1 hA1 i0 i1 i2 j0 j1 j2 k0 k1 k2 l0 l1 l2 z0 z1 z2 e0 e1 e2
  obtain ⟨i0, i1, i2⟩ := HS2.out.im3 4 rfl
  obtain ⟨j0, j1, j2⟩ := HS2.out.im3 3 rfl
  obtain ⟨k0, k1, k2⟩ := HS2.out.im3 2 rfl
  obtain ⟨l0, l1, l2⟩ := HS2.out.im3 1 rfl
  obtain ⟨z0, z1, z2⟩ := HS2.out.im3 0 rfl
  obtain ⟨e0, e1, e2⟩ := HS2.out.fr3 0 rfl
  go_wp2_with fail
  refine (hA2 _ (HP2.out.below HS2.out.below)).mono ?_
  rintro e wq2 ⟨rfl, hb⟩
  have HS3 := hide (HS2.out.next hb)
  clear hb HS2 hA2 i0 i1 i2 j0 j1 j2 k0 k1 k2 l0 l1 l2 z0 z1 z2 e0 e1 e2
  obtain ⟨i0, i1, i2⟩ := HS3.out.im3 4 rfl
  obtain ⟨j0, j1, j2⟩ := HS3.out.im3 3 rfl
  obtain ⟨k0, k1, k2⟩ := HS3.out.im3 2 rfl
  obtain ⟨l0, l1, l2⟩ := HS3.out.im3 1 rfl
  obtain ⟨z0, z1, z2⟩ := HS3.out.im3 0 rfl
  obtain ⟨e0, e1, e2⟩ := HS3.out.fr3 0 rfl
  go_wp2_with fail
  refine (hA3 _ (HP3.out.below HS3.out.below)).mono ?_
  rintro e wq3 ⟨rfl, hb⟩
  have HS4 := hide (HS3.out.next hb)
  clear hb HS3 hA3 i0 i1 i2 j0 j1 j2 k0 k1 k2 l0 l1 l2 z0 z1 z2 e0 e1 e2
  obtain ⟨i0, i1, i2⟩ := HS4.out.im3 4 rfl
  obtain ⟨j0, j1, j2⟩ := HS4.out.im3 3 rfl
  obtain ⟨k0, k1, k2⟩ := HS4.out.im3 2 rfl
  obtain ⟨l0, l1, l2⟩ := HS4.out.im3 1 rfl
  obtain ⟨z0, z1, z2⟩ := HS4.out.im3 0 rfl
  obtain ⟨e0, e1, e2⟩ := HS4.out.fr3 0 rfl
  go_wp2_with fail
  refine (cz1 _).mono ?_
  rintro e wq4 ⟨rfl, hb⟩
  have HS5 := hide (HS4.out.next hb)
  clear hb HS4 cz1 i0 i1 i2 j0 j1 j2 k0 k1 k2 l0 l1 l2 z0 z1 z2 e0 e1 e2
  obtain ⟨i0, i1, i2⟩ := HS5.out.im3 4 rfl
  obtain ⟨j0, j1, j2⟩ := HS5.out.im3 3 rfl
  obtain ⟨k0, k1, k2⟩ := HS5.out.im3 2 rfl
  obtain ⟨l0, l1, l2⟩ := HS5.out.im3 1 rfl
  obtain ⟨z0, z1, z2⟩ := HS5.out.im3 0 rfl
  obtain ⟨e0, e1, e2⟩ := HS5.out.fr3 0 rfl
  go_wp2_with fail
  refine (cz2 _).mono ?_
  rintro e wq5 ⟨rfl, hb⟩
  have HS6 := hide (HS5.out.next hb)
  clear hb HS5 cz2 i0 i1 i2 j0 j1 j2 k0 k1 k2 l0 l1 l2 z0 z1 z2 e0 e1 e2
  obtain ⟨i0, i1, i2⟩ := HS6.out.im3 4 rfl
  obtain ⟨j0, j1, j2⟩ := HS6.out.im3 3 rfl
  obtain ⟨k0, k1, k2⟩ := HS6.out.im3 2 rfl
  obtain ⟨l0, l1, l2⟩ := HS6.out.im3 1 rfl
  obtain ⟨z0, z1, z2⟩ := HS6.out.im3 0 rfl
  obtain ⟨e0, e1, e2⟩ := HS6.out.fr3 0 rfl
  have hmk := make_px K (by omega) wq5
  have hrn := row_new K wq5
  have HS7 := hide (HS6.out.own (bnew wq5 (.cells (madeCells #[.int .i64 0] K) 2)) hrn.v (.inr (Nat.le_refl _)))
  clear hrn
  go_wp2_with fail
  clear hw2 t3' t4' hwK i0 i1 i2 j0 j1 j2 k0 k1 k2 l0 l1 l2 z0 z1 z2 e0 e1 e2
  generalize hB : wq5.heap.size = B at *
  have c0 : (fun k => Value.int .i64 (curF Q f0 f1 f2 f3 0 k)) = (fun _ => Value.int .i64 0) := by
    funext j; unfold curF; split <;> rw [if_neg (by omega)]
  go_loopw [12, 13, 14, 15, 16, 69] (fun cnt _ _ _ _ i wr => ∃ q : Nat, q ≤ Q ∧ i = .int .i64 q ∧ cnt = .int .i64 (cntF Q f0 f1 f2 f3 q) ∧ St w [(w.heap.size + 4, [.int .i64 0, .int .i64 0, .slice none 0 0]), (w.heap.size + 3, [.int .i64 W, .int .i64 H2, .slice (some ⟨b3, o3, none⟩) K cap3]), (w.heap.size + 2, [.int .i64 W, .int .i64 H2, .slice (some ⟨b2, o2, none⟩) K cap2]), (w.heap.size + 1, [.int .i64 W, .int .i64 H, .slice (some ⟨b1, o1, none⟩) Q cap1]), (w.heap.size, [.int .i64 W, .int .i64 H, .slice (some ⟨b0, o0, none⟩) Q cap0])] [(some ⟨B, 0, none⟩, B, K, fun k => .int .i64 (curF Q f0 f1 f2 f3 q k))] wr) (fun _ _ _ _ _ i _ => Q - (intOf i).toNat)
  case atStart => exact ⟨0, by omega, rfl, rfl, by rw [c0]; exact HS7.out⟩
  case round =>
    obtain ⟨q, hq, rfl, rfl, hst⟩ := hrel
    have HSr := hide hst
    have hcl := cntF_le Q f0 f1 f2 f3 q
    clear hst hmk HS7 c0 HS6
    by_cases hlt : q < Q
    · obtain ⟨K2, hK2⟩ : ∃ K2, K2 = q + Q := ⟨_, rfl⟩
      have hqK : q < K := by have := HKQ.out; omega
      have hK2K : K2 < K := by have := HKQ.out; omega
      obtain ⟨i0, i1, i2⟩ := HSr.out.im3 4 rfl
      obtain ⟨j0, j1, j2⟩ := HSr.out.im3 3 rfl
      obtain ⟨k0, k1, k2⟩ := HSr.out.im3 2 rfl
      obtain ⟨l0, l1, l2⟩ := HSr.out.im3 1 rfl
      obtain ⟨_, _, heq, x1⟩ := (HP2.out.below HSr.out.below).at hqK
      cases heq
      obtain ⟨_, _, heq, x2⟩ := (HP2.out.below HSr.out.below).at hK2K
      cases heq
      obtain ⟨_, _, heq, y1⟩ := (HP3.out.below HSr.out.below).at hqK
      cases heq
      obtain ⟨_, _, heq, y2⟩ := (HP3.out.below HSr.out.below).at hK2K
      cases heq
      obtain ⟨_, _, heq, c1⟩ := (HP0.out.below HSr.out.below).at hlt
      cases heq
      obtain ⟨_, _, heq, d1⟩ := (HP1.out.below HSr.out.below).at hlt
      cases heq
      have b1' := allS HA2.out q hqK
      have b2' := allS HA2.out K2 hK2K
      have b3' := allS HA3.out q hqK
      have b4' := allS HA3.out K2 hK2K
      have b5' := allS HA0.out q hlt
      have b6' := allS HA1.out q hlt
      have hidx : IntKind.i64.wrap ((q : Int) + (Q : Int)) = (K2 : Int) := by rw [IntKind.wrap_i64]; omega
      have g1 : (K2 : Int) < (K : Int) := by omega
      have g2 : (0 : Int) ≤ (K2 : Int) := by omega
      have g3 : (q : Int) < (K : Int) := by omega
      have g4 : (q : Int) < (Q : Int) := by omega
      have cS := solvePair_any (f2 q) (f2 K2) (f3 q) (f3 K2) (f0 q) (f1 q) b1' b2' b3' b4' b5' b6'
      have e1 : slv1 (f2 q) (f2 K2) (f3 q) (f3 K2) (f0 q) (f1 q) = u1 Q f0 f1 f2 f3 q := by rw [hK2]; rfl
      have e2 : slv2 (f2 q) (f2 K2) (f3 q) (f3 K2) (f0 q) (f1 q) = u2 Q f0 f1 f2 f3 q := by rw [hK2]; rfl
      have e3 : crs (f2 q) (f2 K2) (f3 q) (f3 K2) = uA Q f0 f1 f2 f3 q := by rw [hK2]; rfl
      rw [e1, e2, e3] at cS
      have HSame := hide (fun h0 => curF_same (Q := Q) (f0 := f0) (f1 := f1) (f2 := f2) (f3 := f3) hlt h0)
      have HStep := hide (curF_step (Q := Q) (f0 := f0) (f1 := f1) (f2 := f2) (f3 := f3) hlt)
      have HCn : Hid (cntF Q f0 f1 f2 f3 (q + 1) = cntF Q f0 f1 f2 f3 q + (if uA Q f0 f1 f2 f3 q = 0 then 1 else 0)) := rfl
      rw [← hK2] at HStep
      have hKne : K2 ≠ q := by omega
      clear b1' b2' b3' b4' b5' b6' e1 e2 e3 hK2 HA0 HA1 HA2 HA3 HP0 HP1 HP2 HP3
      generalize f2 q = A0 at *
      generalize f2 K2 = A1 at *
      generalize f3 q = B0 at *
      generalize f3 K2 = B1 at *
      generalize f0 q = C0 at *
      generalize f1 q = D0 at *
      generalize u1 Q f0 f1 f2 f3 q = S1 at *
      generalize u2 Q f0 f1 f2 f3 q = S2 at *
      generalize uA Q f0 f1 f2 f3 q = AP at *
      generalize cntF Q f0 f1 f2 f3 q = CN at *
      go_upto_region 11 with fail
      have HSd := hide HSr.out.drew
      go_region_held (fun w' => w'.cell? ⟨w.heap.size + 2, 2, none⟩ = some (.slice (some ⟨b2, o2, none⟩) K cap2) ∧ w'.cell? ⟨w.heap.size + 3, 2, none⟩ = some (.slice (some ⟨b3, o3, none⟩) K cap3) ∧ w'.cell? ⟨w.heap.size, 2, none⟩ = some (.slice (some ⟨b0, o0, none⟩) Q cap0) ∧ w'.cell? ⟨w.heap.size + 1, 2, none⟩ = some (.slice (some ⟨b1, o1, none⟩) Q cap1) ∧ w'.cell? ⟨b2, o2 + q, none⟩ = some (.int .i64 A0) ∧ w'.cell? ⟨b2, o2 + K2, none⟩ = some (.int .i64 A1) ∧ w'.cell? ⟨b3, o3 + q, none⟩ = some (.int .i64 B0) ∧ w'.cell? ⟨b3, o3 + K2, none⟩ = some (.int .i64 B1) ∧ w'.cell? ⟨b0, o0 + q, none⟩ = some (.int .i64 C0) ∧ w'.cell? ⟨b1, o1 + q, none⟩ = some (.int .i64 D0))
        ((first | exact ⟨k2, l2, i2, j2, x1, x2, y1, y2, c1, d1⟩ | exact SS.out))
        (first | (go_at_call 21; (with_reducible refine (cS _).mono ?_); rintro e w8 ⟨rfl, hb8⟩; have HS8 := hide (HSd.out.next hb8); have SS := hide (And.intro (Below.keep hb8 k2) (And.intro (Below.keep hb8 l2) (And.intro (Below.keep hb8 i2) (And.intro (Below.keep hb8 j2) (And.intro (Below.keep hb8 x1) (And.intro (Below.keep hb8 x2) (And.intro (Below.keep hb8 y1) (And.intro (Below.keep hb8 y2) (And.intro (Below.keep hb8 c1) (Below.keep hb8 d1))))))))))))
      all_goals
        have hz : ∀ x, x < K → (∃ v, w8.cell? ⟨B, x, none⟩ = some v) ∧ w8.frozen? ⟨B, x, none⟩ = false := by
          intro x hx
          rcases HS8.out.nthO 0 rfl with h | h
          · omega
          · exact ⟨⟨_, (h.2 x hx).1⟩, (h.2 x hx).2⟩
        obtain ⟨⟨m1, hm1⟩, hf1⟩ := hz q hqK
        obtain ⟨⟨m2, hm2⟩, hf2⟩ := hz K2 hK2K
        clear hz SS hb8 HSd HSr cS i0 i1 i2 j0 j1 j2 k0 k1 k2 l0 l1 l2 x1 x2 y1 y2 c1 d1
        by_cases hap : AP = 0
        · subst hap
          have HSn : Hid (St w [(w.heap.size + 4, [.int .i64 0, .int .i64 0, .slice none 0 0]), (w.heap.size + 3, [.int .i64 W, .int .i64 H2, .slice (some ⟨b3, o3, none⟩) K cap3]), (w.heap.size + 2, [.int .i64 W, .int .i64 H2, .slice (some ⟨b2, o2, none⟩) K cap2]), (w.heap.size + 1, [.int .i64 W, .int .i64 H, .slice (some ⟨b1, o1, none⟩) Q cap1]), (w.heap.size, [.int .i64 W, .int .i64 H, .slice (some ⟨b0, o0, none⟩) Q cap0])] [(some ⟨B, 0, none⟩, B, K, fun k => .int .i64 (curF Q f0 f1 f2 f3 (q + 1) k))] w8) := by rw [HSame.out rfl]; exact HS8.out
          have HCm : Hid (cntF Q f0 f1 f2 f3 (q + 1) = CN + 1) := HCn.out
          clear HSame HStep HCn HS8 hm1 hm2 hf1 hf2
          go_wp2_with fail
          exact ⟨⟨q + 1, by omega, rfl, by rw [HCm.out]; rfl, HSn.out⟩, by simp [intOf]; omega⟩
        · have hap' : (AP == 0) = false := by simpa using hap
          have HSn : Hid (St w [(w.heap.size + 4, [.int .i64 0, .int .i64 0, .slice none 0 0]), (w.heap.size + 3, [.int .i64 W, .int .i64 H2, .slice (some ⟨b3, o3, none⟩) K cap3]), (w.heap.size + 2, [.int .i64 W, .int .i64 H2, .slice (some ⟨b2, o2, none⟩) K cap2]), (w.heap.size + 1, [.int .i64 W, .int .i64 H, .slice (some ⟨b1, o1, none⟩) Q cap1]), (w.heap.size, [.int .i64 W, .int .i64 H, .slice (some ⟨b0, o0, none⟩) Q cap0])] [(some ⟨B, 0, none⟩, B, K, fun k => .int .i64 (curF Q f0 f1 f2 f3 (q + 1) k))] ((w8.setCell ⟨B, q, none⟩ (.int .i64 S1)).setCell ⟨B, K2, none⟩ (.int .i64 S2))) := by
            have e : (fun k => Value.int .i64 (curF Q f0 f1 f2 f3 (q + 1) k)) = fun j => if j = K2 then Value.int .i64 S2 else (if j = q then Value.int .i64 S1 else Value.int .i64 (curF Q f0 f1 f2 f3 q j)) := by
              funext j
              rw [HStep.out]
              show Value.int .i64 (if j = K2 then S2 else if j = q then S1 else curF Q f0 f1 f2 f3 q j) = _
              split
              · rfl
              · split <;> rfl
            rw [e]
            exact (HS8.out.put hqK (.int .i64 S1)).put hK2K (.int .i64 S2)
          have HCm : Hid (cntF Q f0 f1 f2 f3 (q + 1) = CN) := by
            have := HCn.out
            rw [if_neg hap] at this
            exact this
          clear HSame HStep HCn HS8
          go_wp2_with fail
          exact ⟨⟨q + 1, by omega, rfl, by rw [HCm.out], HSn.out⟩, by simp [intOf]; omega⟩
    · obtain rfl : q = Q := by omega
      obtain ⟨k0, k1, k2⟩ := HSr.out.im3 2 rfl
      obtain ⟨z0, z1, z2⟩ := HSr.out.im3 0 rfl
      obtain ⟨e0, e1, e2⟩ := HSr.out.fr3 0 rfl
      generalize hCN : cntF q f0 f1 f2 f3 q = CN at *
      clear hCN HA0 HA1 HA2 HA3 HP0 HP1 HP2 HP3
      go_wp2_with fail
      exact bodyPost_ret (v := .tuple #[im W H2 (some ⟨B, 0, none⟩) K K, .int .i64 CN]) (by simp [results, Try.results9, go_sem, z0, z1, z2]) rfl ((HSr.out.fill3 _ _ _).imRI W H2 K CN)

end Go.Proofs.Ytpeocbhnnpppjaa
