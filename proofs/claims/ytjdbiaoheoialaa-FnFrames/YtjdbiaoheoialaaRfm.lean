/- A frame with no common divisor: the program. -/
import Derived.Test.YtjdbiaoheoialaaHom
import Derived.Lib.SliceRun
import Derived.Lib.Walk
import Derived.WalkKit
import Derived.Test.YtjdbiaoheoialaaRgm
import Derived.Test.YtjdbiaoheoialaaFrq
import Derived.Test.YtjdbiaoheoialaaBxs
namespace Go.Proofs.Ytjdbiaoheoialaa
open Go.RowKit Go.Lib

theorem ints_fl (f : Nat → Int) (n j : Nat) (u : Value) (h : (ints (fl f n))[j]? = some u) : j < n ∧ u = .int .i64 (f j) := by
  have hl : (ints (fl f n)).length = n := by simp [ints, fl_len]
  have hj : j < n := by
    have := (List.getElem?_eq_some_iff.1 h).1
    omega
  refine ⟨hj, ?_⟩
  have e : (ints (fl f n))[j]? = some (.int .i64 ((fl f n).getD j 0)) := by
    simp [ints, List.getD, List.getElem?_eq_getElem (show j < (fl f n).length by rw [fl_len]; exact hj)]
  rw [e, fl_at f n j hj] at h
  exact (Option.some.inj h).symm

set_option maxHeartbeats 2000000 in
set_option maxRecDepth 100000 in
theorem clone_any (b off n c : Nat) (f : Nat → Int) (hl : n ≤ 1048576) (w : World) (h : ∀ k, k < n → w.cell? ⟨b, off + k, none⟩ = some (.int .i64 (f k))) :
    Calls Try.prog 36 #[.slice (some ⟨b, off, none⟩) n c] w fun e w' => LsR n f w e w' := by
  obtain ⟨i0, hi, hz0, hz1, hz2⟩ := info2
  have q : ∀ (w : World) (a : Option Addr) (n c n' c' : Nat), (binOp .eql 24 (.slice a n c) (.slice none n' c')).run Try.prog w = .ok (.bool a.isNone) w := fun w a n c n' c' => Lib.run_eql_slice_nil w _ _ a n c n' c' Try.underlying24
  have HC := hide h
  clear h
  go_enter Try.func36, Try.ntmps36
  go_wp2_with (at_builtin; refine wpList_append_own _ rfl _ _ 24 rfl w.heap.size 2 i0 (.int .i64 0) 1 8 Try.underlying24 hi hz0 hz1 hz2 rfl (by decide) _ _ _ rfl (World.ownsRow_made w #[] 0 (Nat.le_refl _) (Nat.zero_le _) rfl) ⟨b, off, none⟩ n c (ints (fl f n)) rfl ?qc1 ?qc2 ?qc3 ?qc4 ?qc5 ?qc6 ?_)
  case qc1 => simp [ints, fl_len]
  case qc2 =>
    intro j u hj
    obtain ⟨hj', rfl⟩ := ints_fl f n j u hj
    rw [Addr.add_lit]
    exact Lib.cell?_alloc_some _ (HC.out j hj')
  case qc3 => intro u hu; simp [ints] at hu; obtain ⟨x, _, rfl⟩ := hu; rfl
  case qc4 => unfold maxLen; omega
  case qc5 => omega
  case qc6 => simp
  intro v' w1 hown hgrow hnil
  have hown' : w1.ownsRow w.heap.size 2 1 v' n (ints (fl f n)) := by simpa using hown
  have HB : Hid (Below w.heap.size w w1) := ((Below.refl _ w).alloc (Nat.le_refl _) _).grown hgrow (by simp) (by intro k hk; simp [Value.ownBlock] at hk; omega)
  obtain ⟨a, cap, t, rfl, ho, ht⟩ := ow_fl hown'
  have HO := hide ho
  have HT := hide ht
  clear hown hown' hgrow hnil ho ht
  go_wp2_with fail
  go_ret
  exact ⟨a, cap, t, rfl, HO.out, HT.out, HB.out⟩

end Go.Proofs.Ytjdbiaoheoialaa

namespace Go.Proofs.Ytjdbiaoheoialaa
open Go.RowKit

set_option linter.unusedSimpArgs false in
theorem c13_setM {F F' T : Nat → Int} {D z : Int} : ∀ {k : Nat}, k < 9 → F' k = z → (∀ j, j < 9 → j ≠ k → F' j = F j) → (c13 F T D).set k (.int .i64 z) = c13 F' T D := fun {k} h1 hk ho => by
  match k, h1, hk, ho with
  | 0, _, hk, ho => simp only [c13, List.set_cons_succ, List.set_cons_zero, hk, ho 1 (by omega) (by omega), ho 2 (by omega) (by omega), ho 3 (by omega) (by omega), ho 4 (by omega) (by omega), ho 5 (by omega) (by omega), ho 6 (by omega) (by omega), ho 7 (by omega) (by omega), ho 8 (by omega) (by omega)]
  | 1, _, hk, ho => simp only [c13, List.set_cons_succ, List.set_cons_zero, hk, ho 0 (by omega) (by omega), ho 2 (by omega) (by omega), ho 3 (by omega) (by omega), ho 4 (by omega) (by omega), ho 5 (by omega) (by omega), ho 6 (by omega) (by omega), ho 7 (by omega) (by omega), ho 8 (by omega) (by omega)]
  | 2, _, hk, ho => simp only [c13, List.set_cons_succ, List.set_cons_zero, hk, ho 0 (by omega) (by omega), ho 1 (by omega) (by omega), ho 3 (by omega) (by omega), ho 4 (by omega) (by omega), ho 5 (by omega) (by omega), ho 6 (by omega) (by omega), ho 7 (by omega) (by omega), ho 8 (by omega) (by omega)]
  | 3, _, hk, ho => simp only [c13, List.set_cons_succ, List.set_cons_zero, hk, ho 0 (by omega) (by omega), ho 1 (by omega) (by omega), ho 2 (by omega) (by omega), ho 4 (by omega) (by omega), ho 5 (by omega) (by omega), ho 6 (by omega) (by omega), ho 7 (by omega) (by omega), ho 8 (by omega) (by omega)]
  | 4, _, hk, ho => simp only [c13, List.set_cons_succ, List.set_cons_zero, hk, ho 0 (by omega) (by omega), ho 1 (by omega) (by omega), ho 2 (by omega) (by omega), ho 3 (by omega) (by omega), ho 5 (by omega) (by omega), ho 6 (by omega) (by omega), ho 7 (by omega) (by omega), ho 8 (by omega) (by omega)]
  | 5, _, hk, ho => simp only [c13, List.set_cons_succ, List.set_cons_zero, hk, ho 0 (by omega) (by omega), ho 1 (by omega) (by omega), ho 2 (by omega) (by omega), ho 3 (by omega) (by omega), ho 4 (by omega) (by omega), ho 6 (by omega) (by omega), ho 7 (by omega) (by omega), ho 8 (by omega) (by omega)]
  | 6, _, hk, ho => simp only [c13, List.set_cons_succ, List.set_cons_zero, hk, ho 0 (by omega) (by omega), ho 1 (by omega) (by omega), ho 2 (by omega) (by omega), ho 3 (by omega) (by omega), ho 4 (by omega) (by omega), ho 5 (by omega) (by omega), ho 7 (by omega) (by omega), ho 8 (by omega) (by omega)]
  | 7, _, hk, ho => simp only [c13, List.set_cons_succ, List.set_cons_zero, hk, ho 0 (by omega) (by omega), ho 1 (by omega) (by omega), ho 2 (by omega) (by omega), ho 3 (by omega) (by omega), ho 4 (by omega) (by omega), ho 5 (by omega) (by omega), ho 6 (by omega) (by omega), ho 8 (by omega) (by omega)]
  | 8, _, hk, ho => simp only [c13, List.set_cons_succ, List.set_cons_zero, hk, ho 0 (by omega) (by omega), ho 1 (by omega) (by omega), ho 2 (by omega) (by omega), ho 3 (by omega) (by omega), ho 4 (by omega) (by omega), ho 5 (by omega) (by omega), ho 6 (by omega) (by omega), ho 7 (by omega) (by omega)]
set_option linter.unusedSimpArgs false in
theorem c13_setT {M F F' : Nat → Int} {D z : Int} : ∀ {k : Nat}, k < 3 → F' k = z → (∀ j, j < 3 → j ≠ k → F' j = F j) → (c13 M F D).set (9 + k) (.int .i64 z) = c13 M F' D := fun {k} h1 hk ho => by
  match k, h1, hk, ho with
  | 0, _, hk, ho => simp only [c13, Nat.reduceAdd, List.set_cons_succ, List.set_cons_zero, hk, ho 1 (by omega) (by omega), ho 2 (by omega) (by omega)]
  | 1, _, hk, ho => simp only [c13, Nat.reduceAdd, List.set_cons_succ, List.set_cons_zero, hk, ho 0 (by omega) (by omega), ho 2 (by omega) (by omega)]
  | 2, _, hk, ho => simp only [c13, Nat.reduceAdd, List.set_cons_succ, List.set_cons_zero, hk, ho 0 (by omega) (by omega), ho 1 (by omega) (by omega)]
theorem c13_atM (M T : Nat → Int) (D : Int) {k : Nat} (h : k < 9) : (c13 M T D)[k]? = some (.int .i64 (M k)) := by
  match k, h with
  | 0, _ => rfl
  | 1, _ => rfl
  | 2, _ => rfl
  | 3, _ => rfl
  | 4, _ => rfl
  | 5, _ => rfl
  | 6, _ => rfl
  | 7, _ => rfl
  | 8, _ => rfl
theorem c13_atT (M T : Nat → Int) (D : Int) {k : Nat} (h : k < 3) : (c13 M T D)[9 + k]? = some (.int .i64 (T k)) := by
  match k, h with
  | 0, _ => rfl
  | 1, _ => rfl
  | 2, _ => rfl
theorem c13_at0 (M T : Nat → Int) (D : Int) {k : Nat} (h : k < 9) : (c13 M T D)[0 + k]? = some (.int .i64 (M k)) := by rw [Nat.zero_add]; exact c13_atM M T D h
/-- the first k are divided -/
def dvK (M : Nat → Int) (g : Int) (k j : Nat) : Int := if j < k then dvF M g j else M j
theorem dvK_step (M : Nat → Int) (g : Int) {k j : Nat} (h : j ≠ k) : dvK M g (k + 1) j = dvK M g k j := by
  unfold dvK
  by_cases h1 : j < k
  · rw [if_pos h1, if_pos (by omega)]
  · rw [if_neg h1, if_neg (by omega)]
theorem dvK_own (M : Nat → Int) (g : Int) (k : Nat) : dvK M g (k + 1) k = (M k).tdiv g := by unfold dvK; rw [if_pos (by omega)]; rfl
theorem dvK_at (M : Nat → Int) (g : Int) (k : Nat) : dvK M g k k = M k := by unfold dvK; rw [if_neg (by omega)]
theorem c13_cg {M M' T T' : Nat → Int} (D : Int) (h : ∀ j, j < 9 → M j = M' j) (h' : ∀ j, j < 3 → T j = T' j) : c13 M T D = c13 M' T' D := by
  unfold c13
  rw [h 0 (by omega), h 1 (by omega), h 2 (by omega), h 3 (by omega), h 4 (by omega), h 5 (by omega), h 6 (by omega), h 7 (by omega), h 8 (by omega), h' 0 (by omega), h' 1 (by omega), h' 2 (by omega)]
theorem dvK_all (M : Nat → Int) (g : Int) {n j : Nat} (h : j < n) : dvK M g n j = dvF M g j := by unfold dvK; rw [if_pos h]
theorem dvK_0 (M : Nat → Int) (g : Int) : dvK M g 0 = M := by funext j; unfold dvK; rw [if_neg (by omega)]

/-- the last region: the two lists are cloned, then the frame is stored -/
def rfR (wB : World) (u : Nat → Value) (w : World) : Prop := u 9 = undef → Below wB.heap.size wB w
def rfP (wB : World) (R : Nat) (z : Int) (M T : Nat → Int) (w : World) : Prop :=
  ∃ b0 c0 b1 c1 w9, w = ((w9.setCell ⟨R, 0, none⟩ (.slice (some ⟨b0, 0, none⟩) 9 c0)).setCell ⟨R, 1, none⟩ (.slice (some ⟨b1, 0, none⟩) 3 c1)).setCell ⟨R, 2, none⟩ (.int .i64 z) ∧ Below wB.heap.size wB w9 ∧ wB.heap.size ≤ b0 ∧ wB.heap.size ≤ b1 ∧ b0 ≠ b1 ∧ Row b0 9 M w9 ∧ Row b1 3 T w9
def rfF (wB : World) (R : Nat) (z : Int) (M T : Nat → Int) (G : Nat → Value → Prop) (j : Nat) (u : Nat → Value) (w : World) : Prop :=
  G j (u j) ∧ (j = 2 → u 9 ≠ undef ∨ ∃ b c, u 2 = .slice (some ⟨b, 0, none⟩) 9 c ∧ wB.heap.size ≤ b ∧ Row b 9 M w) ∧
  (j = 5 → u 9 ≠ undef ∨ ∃ b0 c0 b c, u 2 = .slice (some ⟨b0, 0, none⟩) 9 c0 ∧ u 5 = .slice (some ⟨b, 0, none⟩) 3 c ∧ b0 ≠ b ∧ wB.heap.size ≤ b ∧ Row b 3 T w) ∧
  (j = 8 → u 8 = .agg #[u 2, u 5, .int .i64 z]) ∧ (j = 9 → rfP wB R z M T w)
theorem rfR_up {wB : World} {u : Nat → Value} {w w' : World} (h : rfR wB u w) (hb : Below w.heap.size w w') (i : Nat) (hi : 9 ≠ i) (v : Value) : rfR wB (upU u i v) w' := by
  intro h0
  rw [upU_other u v hi] at h0
  have h1 := h h0
  exact h1.trans (hb.mono h1.size)
theorem rfF_up {wB : World} {R : Nat} {z : Int} {M T : Nat → Int} {G : Nat → Value → Prop} {u : Nat → Value} {w w' : World} (hb : Below w.heap.size w w') (i : Nat) (hi : 9 ≠ i) (v : Value) (j : Nat) (hj : j ≠ i) (hx : i = 2 → j ≠ 5 ∧ j ≠ 8) (hy : i = 5 → j ≠ 8) (h9 : j = 9 → w' = w) (h : rfF wB R z M T G j u w) : rfF wB R z M T G j (upU u i v) w' := by
  have e9 : upU u i v 9 = u 9 := upU_other u v hi
  obtain ⟨h1, h2, h3, h4, h5⟩ := h
  refine ⟨by rw [upU_other u v hj]; exact h1, fun e => ?_, fun e => ?_, fun e => ?_, fun e => ?_⟩
  · rw [e9, upU_other u v (show 2 ≠ i from fun e' => hj (e.trans e'))]
    exact (h2 e).imp id fun ⟨b, c, e1, e2, hr⟩ => ⟨b, c, e1, e2, hr.below hb (hr.lt7 (by omega))⟩
  · rw [e9, upU_other u v (show 5 ≠ i from fun e' => hj (e.trans e')), upU_other u v (show 2 ≠ i from fun e' => (hx e'.symm).1 e)]
    exact (h3 e).imp id fun ⟨b0, c0, b, c, e1, e2, e3, e4, hr⟩ => ⟨b0, c0, b, c, e1, e2, e3, e4, hr.below hb (hr.lt7 (by omega))⟩
  · rw [upU_other u v (show 8 ≠ i from fun e' => hj (e.trans e')), upU_other u v (show 2 ≠ i from fun e' => (hx e'.symm).2 e), upU_other u v (show 5 ≠ i from fun e' => hy e'.symm e)]
    exact h4 e
  · rw [h9 e]; exact h5 e
theorem rfF_val {wB : World} {R : Nat} {z : Int} {M T : Nat → Int} {G : Nat → Value → Prop} {u : Nat → Value} {w : World} (j : Nat) (h2 : j ≠ 2) (h5 : j ≠ 5) (h8 : j ≠ 8) (h9 : j ≠ 9) {v : Value} (h : G j v) : rfF wB R z M T G j (upU u j v) w :=
  ⟨by rw [upU_same]; exact h, fun e => absurd e h2, fun e => absurd e h5, fun e => absurd e h8, fun e => absurd e h9⟩
theorem rfF_st {wB : World} {R : Nat} {z : Int} {M T : Nat → Int} {G : Nat → Value → Prop} {u : Nat → Value} {w w' : World} {v : Value} (hv : v ≠ undef) (j : Nat) (hj : j ≠ 9) (h : rfF wB R z M T G j u w) : rfF wB R z M T G j (upU u 9 v) w' := by
  obtain ⟨h1, h2, h3, h4, h5⟩ := h
  refine ⟨by rw [upU_other _ _ hj]; exact h1, fun e => .inl (by rw [upU_same]; exact hv), fun e => .inl (by rw [upU_same]; exact hv), fun e => ?_, fun e => absurd e hj⟩
  rw [upU_other _ _ (by omega), upU_other _ _ (by omega), upU_other _ _ (by omega)]; exact h4 e

set_option maxRecDepth 100000 in
set_option maxHeartbeats 8000000 in
theorem rightFrame_any (M T : Nat → Int) (D : Int) (hD : 0 < D) (hDb : D.natAbs ≤ 9000000000000000000) (hM : ∀ k, k < 9 → (M k).natAbs ≤ 9000000000000000000) (hT : ∀ k, k < 3 → (T k).natAbs ≤ 9000000000000000000) (w : World) :
    Calls Try.prog 21 #[mapV M T D] w (FrR (D.tdiv (rgS D M T)) (dvF M (rgS D M T)) (dvF T (rgS D M T)) w) := by
  have hg := rgS_mdiv hD M T
  have hgn := rgS_ne (show D ≠ 0 by omega) M T
  have c1 := fun wx => divisor_any M T D (fun k hk => by have := hM k hk; omega) (fun k hk => by have := hT k hk; omega) (by omega) wx
  rw [← hg] at c1
  generalize rgS D M T = g at *
  have HS0 := hide (((St.start w).box (c13 M T D) 48).box' [.slice none 0 0, .slice none 0 0, .int .i64 0] 26 (b := w.heap.size + 1) (by simp))
  have HBM := hide hM
  have HBT := hide hT
  have hg0 : (g == 0) = false := by simp; omega
  have hg1 : ¬ g = 0 := hgn.1
  clear hM hT hg
  unfold mapV at c1 ⊢
  go_enter Try.func21, Try.ntmps21
  go_upto_region 1 with fail
  obtain ⟨w2, hw2⟩ : ∃ w2, w2 = (w.alloc (.cells #[.int .i64 (M 0), .int .i64 (M 1), .int .i64 (M 2), .int .i64 (M 3), .int .i64 (M 4), .int .i64 (M 5), .int .i64 (M 6), .int .i64 (M 7), .int .i64 (M 8), .int .i64 (T 0), .int .i64 (T 1), .int .i64 (T 2), .int .i64 D] 48)).alloc (.cells #[.slice none 0 0, .slice none 0 0, .int .i64 0] 26) := ⟨_, rfl⟩
  have HS2 : Hid (St w [(w.heap.size + 1, [.slice none 0 0, .slice none 0 0, .int .i64 0]), (w.heap.size, c13 M T D)] [] w2) := by rw [hw2]; exact HS0.out
  rw [← hw2]
  clear hw2 HS0
  have BQ2 : Hid (Bx w.heap.size (c13 M T D) w2) := HS2.out.bxAt 1 rfl
  have BR2 : Hid (Bx (w.heap.size + 1) [.slice none 0 0, .slice none 0 0, .int .i64 0] w2) := HS2.out.bxAt 0 rfl
  have HB2 := hide HS2.out.below
  clear HS2
  have x0 := (BQ2.out 0 _ rfl).1
  have x1 := (BQ2.out 1 _ rfl).1
  have x2 := (BQ2.out 2 _ rfl).1
  have x3 := (BQ2.out 3 _ rfl).1
  have x4 := (BQ2.out 4 _ rfl).1
  have x5 := (BQ2.out 5 _ rfl).1
  have x6 := (BQ2.out 6 _ rfl).1
  have x7 := (BQ2.out 7 _ rfl).1
  have x8 := (BQ2.out 8 _ rfl).1
  have x9 := (BQ2.out 9 _ rfl).1
  have x10 := (BQ2.out 10 _ rfl).1
  have x11 := (BQ2.out 11 _ rfl).1
  have x12 := (BQ2.out 12 _ rfl).1
  go_wp2_with fail
  refine (c1 _).mono ?_
  rintro e w3 ⟨rfl, hb3⟩
  have HB3 := hide (HB2.out.trans (hb3.mono HB2.out.size))
  have BQ3 := hide (BQ2.out.below hb3 (World.block_lt_of_cell? _ _ (BQ2.out 0 _ rfl).1))
  have BR3 := hide (BR2.out.below hb3 (World.block_lt_of_cell? _ _ (BR2.out 0 _ rfl).1))
  clear c1 hb3 HB2 BQ2 BR2 x0 x1 x2 x3 x4 x5 x6 x7 x8 x9 x10 x11 x12
  generalize hRR : w.heap.size + 1 = RR at *
  have HRR := hide hRR
  clear hRR
  have HNE : Hid (RR ≠ w.heap.size) := by have := HRR.out; show _ ≠ _; omega
  go_wp2_with fail
  go_loopw [9] (fun i wr => ∃ k : Nat, k ≤ 9 ∧ i = .int .i64 k ∧ Bx w.heap.size (c13 (dvK M g k) T D) wr ∧ Bx RR [.slice none 0 0, .slice none 0 0, .int .i64 0] wr ∧ Below w.heap.size w wr) (fun i _ => 9 - (intOf i).toNat)
  case atStart => exact ⟨0, by omega, rfl, by rw [dvK_0]; exact BQ3.out, BR3.out, HB3.out⟩
  case round =>
    obtain ⟨k, hk, rfl, hbq, hbr, hbw⟩ := hrel
    have HBQ := hide hbq
    have HBR := hide hbr
    have HBW := hide hbw
    clear hbq hbr hbw BQ3 BR3 HB3
    by_cases hlt : k < 9
    · have hki : (k : Int) < 9 := by omega
      obtain ⟨xc, xf⟩ := HBQ.out k _ (c13_atM _ _ _ hlt)
      have eX := dvK_at M g k
      rw [eX] at xc
      have kz := Int.natAbs_tdiv_le_natAbs (M k) g
      obtain ⟨z, hz⟩ : ∃ z, z = (M k).tdiv g := ⟨_, rfl⟩
      rw [← hz] at kz
      have ez : IntKind.i64.wrap ((M k).tdiv g) = z := by have := HBM.out k hlt; rw [IntKind.wrap_i64, ← hz]; omega
      have HN : Hid (Bx w.heap.size (c13 (dvK M g (k + 1)) T D) (wr.setCell ⟨w.heap.size, k, none⟩ (.int .i64 z))) := by
        have := HBQ.out.set k (.int .i64 z)
        rwa [c13_setM (F' := dvK M g (k + 1)) hlt ((dvK_own M g k).trans hz.symm) (fun j _ hj => dvK_step M g hj)] at this
      have HRN : Hid (Bx RR [.slice none 0 0, .slice none 0 0, .int .i64 0] (wr.setCell ⟨w.heap.size, k, none⟩ (.int .i64 z))) := fun j v hv => by
        have := HBR.out j v hv
        refine ⟨?_, by simpa using this.2⟩
        rw [World.cell?_setCell_other _ _ _ _ (by intro e; exact HNE.out (congrArg Addr.block e).symm)]
        exact this.1
      have HWN := hide (HBW.out.setCell (p := ⟨w.heap.size, k, none⟩) (Nat.le_refl _) (.int .i64 z))
      clear kz hz eX HBQ HBR HBW
      go_wp2_with fail
      exact ⟨⟨k + 1, by omega, by simp, HN.out, HRN.out, HWN.out⟩, by simp [intOf] <;> omega⟩
    · have hk9 : k = 9 := by omega
      have hki : ¬ (k : Int) < 9 := by omega
      have HBQ9 : Hid (Bx w.heap.size (c13 (dvF M g) T D) wr) := by
        have := HBQ.out
        rw [hk9] at this
        rwa [c13_cg D (fun j hj => dvK_all M g hj) (fun _ _ => rfl)] at this
      clear hk9 HBQ
      obtain ⟨w5, hw5⟩ : ∃ w5, w5 = wr := ⟨_, rfl⟩
      rw [← hw5] at HBQ9 HBR HBW
      rw [← hw5]
      clear hw5
      go_wp2_with fail
      go_loopw [21] (fun i wr => ∃ k : Nat, k ≤ 3 ∧ i = .int .i64 k ∧ Bx w.heap.size (c13 (dvF M g) (dvK T g k) D) wr ∧ Bx RR [.slice none 0 0, .slice none 0 0, .int .i64 0] wr ∧ Below w.heap.size w wr) (fun i _ => 3 - (intOf i).toNat)
      case atStart => exact ⟨0, by omega, rfl, by rw [dvK_0]; exact HBQ9.out, HBR.out, HBW.out⟩
      case round =>
        obtain ⟨k, hk, rfl, hbq, hbr, hbw⟩ := hrel
        clear HBQ9 HBR HBW
        have HBQ := hide hbq
        have HBR := hide hbr
        have HBW := hide hbw
        clear hbq hbr hbw
        by_cases hlt : k < 3
        · have hki : (k : Int) < 3 := by omega
          obtain ⟨xc, xf⟩ := HBQ.out (9 + k) _ (c13_atT _ _ _ hlt)
          have eX := dvK_at T g k
          rw [eX] at xc
          have kz := Int.natAbs_tdiv_le_natAbs (T k) g
          obtain ⟨z, hz⟩ : ∃ z, z = (T k).tdiv g := ⟨_, rfl⟩
          rw [← hz] at kz
          have ez : IntKind.i64.wrap ((T k).tdiv g) = z := by have := HBT.out k hlt; rw [IntKind.wrap_i64, ← hz]; omega
          have HN : Hid (Bx w.heap.size (c13 (dvF M g) (dvK T g (k + 1)) D) (wr.setCell ⟨w.heap.size, 9 + k, none⟩ (.int .i64 z))) := by
            have := HBQ.out.set (9 + k) (.int .i64 z)
            rwa [c13_setT (F' := dvK T g (k + 1)) hlt ((dvK_own T g k).trans hz.symm) (fun j _ hj => dvK_step T g hj)] at this
          have HRN : Hid (Bx RR [.slice none 0 0, .slice none 0 0, .int .i64 0] (wr.setCell ⟨w.heap.size, 9 + k, none⟩ (.int .i64 z))) := fun j v hv => by
            have := HBR.out j v hv
            refine ⟨?_, by simpa using this.2⟩
            rw [World.cell?_setCell_other _ _ _ _ (by intro e; exact HNE.out (congrArg Addr.block e).symm)]
            exact this.1
          have HWN := hide (HBW.out.setCell (p := ⟨w.heap.size, 9 + k, none⟩) (Nat.le_refl _) (.int .i64 z))
          clear kz hz eX HBQ HBR HBW
          go_wp2_with fail
          exact ⟨⟨k + 1, by omega, by simp, HN.out, HRN.out, HWN.out⟩, by simp [intOf] <;> omega⟩
        · have hk3 : k = 3 := by omega
          have hki : ¬ (k : Int) < 3 := by omega
          have HBQ3 : Hid (Bx w.heap.size (c13 (dvF M g) (dvF T g) D) wr) := by
            have := HBQ.out
            rw [hk3] at this
            rwa [c13_cg D (fun _ _ => rfl) (fun j hj => dvK_all T g hj)] at this
          clear hk3 HBQ
          obtain ⟨w6, hw6⟩ : ∃ w6, w6 = wr := ⟨_, rfl⟩
          rw [← hw6] at HBQ3 HBR HBW
          rw [← hw6]
          clear hw6
          obtain ⟨xc, xf⟩ := HBQ3.out 12 _ rfl
          have kz := Int.natAbs_tdiv_le_natAbs D g
          obtain ⟨z, hz⟩ : ∃ z, z = D.tdiv g := ⟨_, rfl⟩
          rw [← hz] at kz
          have ez : IntKind.i64.wrap (D.tdiv g) = z := by rw [IntKind.wrap_i64, ← hz]; omega
          have HN : Hid (Bx w.heap.size (c13 (dvF M g) (dvF T g) z) (w6.setCell ⟨w.heap.size, 12, none⟩ (.int .i64 z))) := HBQ3.out.set 12 (.int .i64 z)
          have HRN : Hid (Bx RR [.slice none 0 0, .slice none 0 0, .int .i64 0] (w6.setCell ⟨w.heap.size, 12, none⟩ (.int .i64 z))) := fun j v hv => by
            have := HBR.out j v hv
            refine ⟨?_, by simpa using this.2⟩
            rw [World.cell?_setCell_other _ _ _ _ (by intro e; exact HNE.out (congrArg Addr.block e).symm)]
            exact this.1
          have HWN := hide (HBW.out.setCell (p := ⟨w.heap.size, 12, none⟩) (Nat.le_refl _) (.int .i64 z))
          have HZ := hide hz
          clear kz hz HBQ3 HBR HBW
          generalize dvF M g = M' at *
          generalize dvF T g = T' at *
          go_upto_region 13 with fail
          generalize w6.setCell ⟨w.heap.size, 12, none⟩ (.int .i64 z) = w7 at *
          clear xc xf ez
          have cR := isRight_any M' T' z w7
          unfold mapV at cR
          have x0 := (HN.out 0 _ rfl).1
          have x1 := (HN.out 1 _ rfl).1
          have x2 := (HN.out 2 _ rfl).1
          have x3 := (HN.out 3 _ rfl).1
          have x4 := (HN.out 4 _ rfl).1
          have x5 := (HN.out 5 _ rfl).1
          have x6 := (HN.out 6 _ rfl).1
          have x7 := (HN.out 7 _ rfl).1
          have x8 := (HN.out 8 _ rfl).1
          have x9 := (HN.out 9 _ rfl).1
          have x10 := (HN.out 10 _ rfl).1
          have x11 := (HN.out 11 _ rfl).1
          have x12 := (HN.out 12 _ rfl).1
          go_wp2_with fail
          refine cR.mono ?_
          rintro e w8 ⟨rfl, hb8⟩
          have HB8 := hide (HWN.out.trans (hb8.mono HWN.out.size))
          have BQ8 := hide (HN.out.below hb8 (World.block_lt_of_cell? _ _ (HN.out 0 _ rfl).1))
          have BR8 := hide (HRN.out.below hb8 (World.block_lt_of_cell? _ _ (HRN.out 0 _ rfl).1))
          clear cR hb8 HN HRN HWN x0 x1 x2 x3 x4 x5 x6 x7 x8 x9 x10 x11 x12
          have hfe : rightB M' T' z = frmB z 9 M' 3 T' := by have := frI_eq z 9 M' 3 T'; rw [← this]; rfl
          rw [hfe]
          clear hfe
          obtain ⟨z0, y0⟩ := BR8.out 0 _ rfl
          obtain ⟨z1, y1⟩ := BR8.out 1 _ rfl
          obtain ⟨z2, y2⟩ := BR8.out 2 _ rfl
          cases hfr : frmB z 9 M' 3 T'
          · have HF : Hid (FrR z M' T' w (.returned (.tuple #[vFrame 0 none 0 0 none 0 0, .bool false])) (((w8.setCell ⟨RR, 0, none⟩ (.slice none 0 0)).setCell ⟨RR, 1, none⟩ (.slice none 0 0)).setCell ⟨RR, 2, none⟩ (.int .i64 0))) := .inr ⟨hfr, rfl, below_set37 HB8.out _ _ _ (by have := HRR.out; omega)⟩
            clear hfr
            go_wp2_with fail
            exact bodyPost_ret (v := .tuple #[vFrame 0 none 0 0 none 0 0, .bool false]) (by simp [results, Try.results21, go_sem, z0, z1, z2]) rfl (HZ.out ▸ HF.out)
          · go_upto_region 15 with fail
            clear hg0 hg1 y0 y1 y2 z0 z1 z2 HBM HBT
            have HLT := hide (World.block_lt_of_cell? _ _ (BQ8.out 0 _ rfl).1)
            have HLR := hide (World.block_lt_of_cell? _ _ (BR8.out 0 _ rfl).1)
            obtain ⟨q, hq⟩ : ∃ q, q = w.heap.size := ⟨_, rfl⟩
            rw [← hq] at BQ8 HB8 HLT
            rw [← hq]
            have HQ := hide hq
            clear hq
            have hc0 := fun wx hb => clone_any q 0 9 9 M' (by omega) wx hb
            have hc1 := fun wx hb => clone_any q 9 3 3 T' (by omega) wx hb
            obtain ⟨G, hG⟩ : ∃ G : Nat → Value → Prop, G = (fun j v => match j, v with | 0, v => v = .pointer (some ⟨q, 0, none⟩) | 1, v => v = .slice (some ⟨q, 0, none⟩) 9 9 | 3, v => v = .pointer (some ⟨q, 9, none⟩) | 4, v => v = .slice (some ⟨q, 9, none⟩) 3 3 | 6, v => v = .pointer (some ⟨q, 12, none⟩) | 7, v => v = .int .i64 z | 10, v => v = .bool true | _, _ => True) := ⟨_, rfl⟩
            have G0 : Hid (∀ v, G 0 v ↔ v = .pointer (some ⟨q, 0, none⟩)) := fun v => by rw [hG]; exact Iff.rfl
            have G1 : Hid (∀ v, G 1 v ↔ v = .slice (some ⟨q, 0, none⟩) 9 9) := fun v => by rw [hG]; exact Iff.rfl
            have G3 : Hid (∀ v, G 3 v ↔ v = .pointer (some ⟨q, 9, none⟩)) := fun v => by rw [hG]; exact Iff.rfl
            have G4 : Hid (∀ v, G 4 v ↔ v = .slice (some ⟨q, 9, none⟩) 3 3) := fun v => by rw [hG]; exact Iff.rfl
            have G6 : Hid (∀ v, G 6 v ↔ v = .pointer (some ⟨q, 12, none⟩)) := fun v => by rw [hG]; exact Iff.rfl
            have G7 : Hid (∀ v, G 7 v ↔ v = .int .i64 z) := fun v => by rw [hG]; exact Iff.rfl
            have G10 : Hid (∀ v, G 10 v ↔ v = .bool true) := fun v => by rw [hG]; exact Iff.rfl
            have GT : Hid (∀ v, G 2 v ∧ G 5 v ∧ G 8 v ∧ G 9 v) := fun v => by rw [hG]; exact ⟨trivial, trivial, trivial, trivial⟩
            clear hG
            refine region_opsU (rfR w8) (rfF w8 RR z M' T' G) (by kernel_rfl) (by kernel_rfl) (by kernel_rfl) ?_ ?_ ?_
            · exact fun _ => (Below.refl _ _).drew
            · refine ⟨?_, ?_, ?_, ?_, ?_, ?_, ?_, ?_, ?_, ?_, ?_, trivial⟩
              · intro u w21 au hau hu hF hp' K hK
                have t1 : au.tmps[1]?.getD undef = .pointer (some ⟨q, 0, none⟩) := by rw [hau.out]; kernel_rfl
                refine step_plain rfl ?_
                go_simp
                exact hK.out (.pointer (some ⟨q, 0, none⟩)) _ (rfR_up hF (Below.refl _ _) 0 (by omega) _) (rfF_val 0 (by omega) (by omega) (by omega) (by omega) ((G0.out _).2 rfl)) (fun j hj hf h => rfF_up (Below.refl _ _) 0 (by omega) _ j hj (by omega) (by omega) (fun _ => rfl) h)
              · intro u w21 au hau hu hF hp' K hK
                have h0 : u 0 = .pointer (some ⟨q, 0, none⟩) := (G0.out _).1 (PreF.get hp' 0 (by kernel_rfl)).1
                have t0 : au.tmps[42]?.getD undef = u 0 := by rw [hau.out]; kernel_rfl
                rw [h0] at t0
                refine step_plain rfl ?_
                go_simp
                exact hK.out (.slice (some ⟨q, 0, none⟩) 9 9) _ (rfR_up hF (Below.refl _ _) 1 (by omega) _) (rfF_val 1 (by omega) (by omega) (by omega) (by omega) ((G1.out _).2 rfl)) (fun j hj hf h => rfF_up (Below.refl _ _) 1 (by omega) _ j hj (by omega) (by omega) (fun _ => rfl) h)
              · intro u w21 au hau hu hF hp' K hK
                have h9 : u 9 = undef := (hu.out 9 (by decide) (.inr (by kernel_rfl))).trans (by kernel_rfl)
                have h0 : u 1 = .slice (some ⟨q, 0, none⟩) 9 9 := (G1.out _).1 (PreF.get hp' 1 (by kernel_rfl)).1
                have t0 : au.tmps[43]?.getD undef = u 1 := by rw [hau.out]; kernel_rfl
                rw [h0] at t0
                have hB := hF h9
                have c := hc0 w21 (fun k hk => ((BQ8.out.below hB HLT.out) (0 + k) _ (c13_at0 _ _ _ hk)).1)
                refine step_plain rfl ?_
                go_simp
                refine c.mono ?_
                rintro e w22 ⟨a9, c9, b9, rfl, ho, hl, hb9⟩
                rcases ho with ho | ⟨rfl, hr⟩
                · exact absurd ho (by omega)
                exact hK.out (.slice (some ⟨b9, 0, none⟩) 9 c9) _ (rfR_up hF hb9 2 (by omega) _) ⟨(GT.out _).1, fun _ => .inr ⟨b9, c9, upU_same _ _ _, by have := hB.size; omega, hr⟩, fun e => by omega, fun e => by omega, fun e => by omega⟩ (fun j hj hf h => rfF_up hb9 2 (by omega) _ j hj (fun _ => ⟨(fun e => by subst e; exact absurd (Eq.trans (Eq.symm (by kernel_rfl)) hf) Bool.false_ne_true), (fun e => by subst e; exact absurd (Eq.trans (Eq.symm (by kernel_rfl)) hf) Bool.false_ne_true)⟩) (by omega) (fun e => by subst e; exact absurd (Eq.trans (Eq.symm (by kernel_rfl)) hf) Bool.false_ne_true) h)
              · intro u w21 au hau hu hF hp' K hK
                have t1 : au.tmps[1]?.getD undef = .pointer (some ⟨q, 0, none⟩) := by rw [hau.out]; kernel_rfl
                refine step_plain rfl ?_
                go_simp
                exact hK.out (.pointer (some ⟨q, 9, none⟩)) _ (rfR_up hF (Below.refl _ _) 3 (by omega) _) (rfF_val 3 (by omega) (by omega) (by omega) (by omega) ((G3.out _).2 rfl)) (fun j hj hf h => rfF_up (Below.refl _ _) 3 (by omega) _ j hj (by omega) (by omega) (fun _ => rfl) h)
              · intro u w21 au hau hu hF hp' K hK
                have h0 : u 3 = .pointer (some ⟨q, 9, none⟩) := (G3.out _).1 (PreF.get hp' 3 (by kernel_rfl)).1
                have t0 : au.tmps[45]?.getD undef = u 3 := by rw [hau.out]; kernel_rfl
                rw [h0] at t0
                refine step_plain rfl ?_
                go_simp
                exact hK.out (.slice (some ⟨q, 9, none⟩) 3 3) _ (rfR_up hF (Below.refl _ _) 4 (by omega) _) (rfF_val 4 (by omega) (by omega) (by omega) (by omega) ((G4.out _).2 rfl)) (fun j hj hf h => rfF_up (Below.refl _ _) 4 (by omega) _ j hj (by omega) (by omega) (fun _ => rfl) h)
              · intro u w21 au hau hu hF hp' K hK
                have h9 : u 9 = undef := (hu.out 9 (by decide) (.inr (by kernel_rfl))).trans (by kernel_rfl)
                have h0 : u 4 = .slice (some ⟨q, 9, none⟩) 3 3 := (G4.out _).1 (PreF.get hp' 4 (by kernel_rfl)).1
                have t0 : au.tmps[46]?.getD undef = u 4 := by rw [hau.out]; kernel_rfl
                rw [h0] at t0
                have hB := hF h9
                have c := hc1 w21 (fun k hk => ((BQ8.out.below hB HLT.out) (9 + k) _ (c13_atT _ _ _ hk)).1)
                refine step_plain rfl ?_
                go_simp
                refine c.mono ?_
                rintro e w22 ⟨a9, c9, b9, rfl, ho, hl, hb9⟩
                rcases ho with ho | ⟨rfl, hr⟩
                · exact absurd ho (by omega)
                obtain ⟨b8, c8, e8, hB8, hr8⟩ := ((PreF.get hp' 2 (by kernel_rfl)).2.1 rfl).resolve_left (fun h => h h9)
                have hl8 := hr8.lt7 (by omega)
                exact hK.out (.slice (some ⟨b9, 0, none⟩) 3 c9) _ (rfR_up hF hb9 5 (by omega) _) ⟨(GT.out _).2.1, fun e => by omega, fun _ => .inr ⟨b8, c8, b9, c9, (upU_other _ _ (by omega)).trans e8, upU_same _ _ _, by omega, by have := hB.size; omega, hr⟩, fun e => by omega, fun e => by omega⟩ (fun j hj hf h => rfF_up hb9 5 (by omega) _ j hj (by omega) (fun _ => (fun e => by subst e; exact absurd (Eq.trans (Eq.symm (by kernel_rfl)) hf) Bool.false_ne_true)) (fun e => by subst e; exact absurd (Eq.trans (Eq.symm (by kernel_rfl)) hf) Bool.false_ne_true) h)
              · intro u w21 au hau hu hF hp' K hK
                have t1 : au.tmps[1]?.getD undef = .pointer (some ⟨q, 0, none⟩) := by rw [hau.out]; kernel_rfl
                refine step_plain rfl ?_
                go_simp
                exact hK.out (.pointer (some ⟨q, 12, none⟩)) _ (rfR_up hF (Below.refl _ _) 6 (by omega) _) (rfF_val 6 (by omega) (by omega) (by omega) (by omega) ((G6.out _).2 rfl)) (fun j hj hf h => rfF_up (Below.refl _ _) 6 (by omega) _ j hj (by omega) (by omega) (fun _ => rfl) h)
              · intro u w21 au hau hu hF hp' K hK
                have h9 : u 9 = undef := (hu.out 9 (by decide) (.inr (by kernel_rfl))).trans (by kernel_rfl)
                have h0 : u 6 = .pointer (some ⟨q, 12, none⟩) := (G6.out _).1 (PreF.get hp' 6 (by kernel_rfl)).1
                have t0 : au.tmps[48]?.getD undef = u 6 := by rw [hau.out]; kernel_rfl
                rw [h0] at t0
                obtain ⟨x12, -⟩ := (BQ8.out.below (hF h9) HLT.out) 12 _ rfl
                refine step_plain rfl ?_
                go_simp
                exact hK.out (.int .i64 z) _ (rfR_up hF (Below.refl _ _) 7 (by omega) _) (rfF_val 7 (by omega) (by omega) (by omega) (by omega) ((G7.out _).2 rfl)) (fun j hj hf h => rfF_up (Below.refl _ _) 7 (by omega) _ j hj (by omega) (by omega) (fun _ => rfl) h)
              · intro u w21 au hau hu hF hp' K hK
                have h7 : u 7 = .int .i64 z := (G7.out _).1 (PreF.get hp' 7 (by kernel_rfl)).1
                have t49 : au.tmps[49]?.getD undef = u 7 := by rw [hau.out]; kernel_rfl
                rw [h7] at t49
                have h9 : u 9 = undef := (hu.out 9 (by decide) (.inr (by kernel_rfl))).trans (by kernel_rfl)
                obtain ⟨b7, c7, b9, c9, e7, e9, -, -, -⟩ := ((PreF.get hp' 5 (by kernel_rfl)).2.2.1 rfl).resolve_left (fun h => h h9)
                have t44 : au.tmps[44]?.getD undef = u 2 := by rw [hau.out]; kernel_rfl
                have t47 : au.tmps[47]?.getD undef = u 5 := by rw [hau.out]; kernel_rfl
                rw [e7] at t44
                rw [e9] at t47
                refine step_plain rfl ?_
                go_simp
                exact hK.out (.agg #[.slice (some ⟨b7, 0, none⟩) 9 c7, .slice (some ⟨b9, 0, none⟩) 3 c9, .int .i64 z]) _ (rfR_up hF (Below.refl _ _) 8 (by omega) _) ⟨(GT.out _).2.2.1, fun e => by omega, fun e => by omega, fun _ => by rw [upU_same, upU_other _ _ (by omega), upU_other _ _ (by omega), e7, e9], fun e => by omega⟩ (fun j hj hf h => rfF_up (Below.refl _ _) 8 (by omega) _ j hj (by omega) (by omega) (fun _ => rfl) h)
              · intro u w21 au hau hu hF hp' K hK
                have h9 : u 9 = undef := (hu.out 9 (by decide) (.inl rfl)).trans (by kernel_rfl)
                obtain ⟨b8, c8, e8, hB8, hr8⟩ := ((PreF.get hp' 2 (by kernel_rfl)).2.1 rfl).resolve_left (fun h => h h9)
                obtain ⟨b7, c7, b9, c9, e7, e9, hne, hB9, hr9⟩ := ((PreF.get hp' 5 (by kernel_rfl)).2.2.1 rfl).resolve_left (fun h => h h9)
                have e10 := (PreF.get hp' 8 (by kernel_rfl)).2.2.2.1 rfl
                rw [e8] at e7
                cases e7
                rw [e8, e9] at e10
                have hB := hF h9
                have t50 : au.tmps[50]?.getD undef = u 8 := by rw [hau.out]; kernel_rfl
                rw [e10] at t50
                have t2 : au.tmps[2]?.getD undef = .pointer (some ⟨RR, 0, none⟩) := by rw [hau.out]; kernel_rfl
                have bx := BR8.out.below hB HLR.out
                obtain ⟨x0', y0'⟩ := bx 0 _ rfl
                obtain ⟨x1', y1'⟩ := bx 1 _ rfl
                obtain ⟨x2', y2'⟩ := bx 2 _ rfl
                refine step_plain rfl ?_
                go_simp
                exact hK.out (.bool true) _ (fun h0 => by rw [upU_same] at h0; simp [undef] at h0) ⟨(GT.out _).2.2.2, fun e => by omega, fun e => by omega, fun e => by omega, fun _ => ⟨b8, c8, b9, c9, w21, rfl, hB, hB8, hB9, hne, hr8, hr9⟩⟩ (fun j hj _ h => rfF_st (by simp [undef]) j hj h)
              · intro u w21 au hau hu hF hp' K hK
                refine step_plain rfl ?_
                go_simp
                exact hK.out (.bool true) _ (rfR_up hF (Below.refl _ _) 10 (by omega) _) (rfF_val 10 (by omega) (by omega) (by omega) (by omega) ((G10.out _).2 rfl)) (fun j hj hf h => rfF_up (Below.refl _ _) 10 (by omega) _ j hj (by omega) (by omega) (fun _ => rfl) h)
            · intro u w30 hF hall
              obtain ⟨b0, c0, b1, c1, w9, hw30, hb9, hB0, hB1, hne, hr0, hr1⟩ := (hall 9 (by decide)).2.2.2.2 rfl
              have h10 := (G10.out _).1 (hall 10 (by decide)).1
              have hlr : RR < w8.heap.size := HLR.out
              have hrr := HRR.out
              have hqq := HQ.out
              have hRB0 : RR ≠ b0 := by omega
              have hRB1 : RR ≠ b1 := by omega
              have hs8 := HB8.out.size
              have bx := BR8.out.below hb9 HLR.out
              obtain ⟨z0, -⟩ := bx 0 _ rfl
              obtain ⟨z1, -⟩ := bx 1 _ rfl
              obtain ⟨z2, -⟩ := bx 2 _ rfl
              have HF : Hid (FrR z M' T' w (.returned (.tuple #[vFrame z (some ⟨b0, 0, none⟩) 9 c0 (some ⟨b1, 0, none⟩) 3 c1, .bool true])) (((w9.setCell ⟨RR, 0, none⟩ (.slice (some ⟨b0, 0, none⟩) 9 c0)).setCell ⟨RR, 1, none⟩ (.slice (some ⟨b1, 0, none⟩) 3 c1)).setCell ⟨RR, 2, none⟩ (.int .i64 z))) :=
                .inl ⟨hfr, b0, c0, b1, c1, rfl, by omega, by omega, hne, ((hr0.set (p := ⟨RR, 0, none⟩) hRB0 _).set (p := ⟨RR, 1, none⟩) hRB0 _).set (p := ⟨RR, 2, none⟩) hRB0 _, ((hr1.set (p := ⟨RR, 0, none⟩) hRB1 _).set (p := ⟨RR, 1, none⟩) hRB1 _).set (p := ⟨RR, 2, none⟩) hRB1 _, below_set37 (hqq ▸ (HB8.out.trans (hb9.mono (by omega)))) _ _ _ (by omega)⟩
              rw [hw30]
              clear hw30 hF hall hb9 hB0 hB1 hne hr0 hr1 hfr bx hs8 hlr hrr hqq
              simp only [rgPut, Act.put, h10]
              clear h10
              go_simp
              go_wp2_with fail
              exact bodyPost_ret (v := .tuple #[vFrame z (some ⟨b0, 0, none⟩) 9 c0 (some ⟨b1, 0, none⟩) 3 c1, .bool true]) (by simp [results, Try.results21, go_sem, z0, z1, z2]) rfl (HZ.out ▸ HF.out)

end Go.Proofs.Ytjdbiaoheoialaa
