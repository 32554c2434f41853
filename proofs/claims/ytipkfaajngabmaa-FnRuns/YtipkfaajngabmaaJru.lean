/- JoinRuns: the program. -/
import Derived.Test.YtipkfaajngabmaaRbs
namespace Go.Proofs.Ytipkfaajngabmaa
open Go.RowKit

/-- two pixels joined -/
def jpx (op x y : Int) : Int := if op = 1 then x * y else if op = 2 then max x y else x * (1 - y)
theorem jpx_bit {op x y : Int} (hx : x = 0 ∨ x = 1) (hy : y = 0 ∨ y = 1) : jpx op x y = 0 ∨ jpx op x y = 1 := by
  unfold jpx
  rcases hx with rfl | rfl <;> rcases hy with rfl | rfl <;> (repeat' split) <;> omega

set_option maxRecDepth 100000 in
theorem joinPixels_any (x y op : Int) (hx : x = 0 ∨ x = 1) (hy : y = 0 ∨ y = 1) (ho : op = 1 ∨ op = 2 ∨ op = 3) (w : World) :
    Calls Try.prog 32 #[.int .i64 x, .int .i64 y, .int .i64 op] w fun e w' => e = .returned (.int .i64 (jpx op x y)) ∧ w' = w := by
  rcases ho with rfl | rfl | rfl <;> rcases hx with rfl | rfl <;> rcases hy with rfl | rfl <;>
  · go_enter Try.func32, Try.ntmps32
    go_wp2
    go_ret
    exact ⟨congrArg (fun z => Ending.returned (Value.int .i64 z)) (by decide), rfl⟩

def jruF (op : Int) (m : Nat) (r : Nat → Int) (m' : Nat) (r' : Nat → Int) (j : Nat) : Int := jpx op (rbit r m j) (rbit r' m' j)
theorem jruF_bit (op : Int) (m : Nat) (r : Nat → Int) (m' : Nat) (r' : Nat → Int) (n : Nat) : bit1 (jruF op m r m' r') n := fun _ _ => jpx_bit (rbit_01 _ _ _) (rbit_01 _ _ _)
def jruB (n : Int) (m : Nat) (r : Nat → Int) (m' : Nat) (r' : Nat → Int) (op : Int) : Bool := inB op 1 3 && (inB n 1 4096 && (runB n m r && runB n m' r'))
def jruN (n : Int) (m : Nat) (r : Nat → Int) (m' : Nat) (r' : Nat → Int) (op : Int) : Nat := if jruB n m r m' r' op = true then rcnt (jruF op m r m' r') n.toNat else 0
theorem jruN_le (n : Int) (m : Nat) (r : Nat → Int) (m' : Nat) (r' : Nat → Int) (op : Int) : jruN n m r m' r' op ≤ 1048576 := by
  unfold jruN
  split
  · rename_i h
    unfold jruB inB at h
    simp only [Bool.and_eq_true, decide_eq_true_eq] at h
    have := rcnt_bd (jruF op m r m' r') n.toNat
    omega
  · omega

/-- a list that is written in place: its first k numbers are the new ones -/
def hyb (g f : Nat → Int) (k j : Nat) : Int := if j < k then g j else f j
theorem hyb_zero (g f : Nat → Int) : hyb g f 0 = f := by funext j; unfold hyb; rw [if_neg (by omega)]
theorem hyb_at (g f : Nat → Int) (k : Nat) : hyb g f k k = f k := by unfold hyb; rw [if_neg (by omega)]
theorem Row.hybStep {b n k : Nat} {g f : Nat → Int} {w : World} (h : Row b n (hyb g f k) w) (hk : k < n) {z : Int} (hz : z = g k) : Row b n (hyb g f (k + 1)) (w.setCell ⟨b, k, none⟩ (.int .i64 z)) := by
  intro j hj
  obtain ⟨hy, fr⟩ := h j hj
  refine ⟨?_, by simpa using fr⟩
  by_cases hjk : j = k
  · subst hjk
    rw [World.cell?_setCell_same _ _ _ hy, hz]
    unfold hyb; rw [if_pos (by omega)]
  · rw [World.cell?_setCell_other _ _ _ _ (by simp), hy]
    unfold hyb
    by_cases e : j < k
    · rw [if_pos e, if_pos (by omega)]
    · rw [if_neg e, if_neg (by omega)]
theorem Row.hybDone {b n : Nat} {g f : Nat → Int} {w : World} (h : Row b n (hyb g f n) w) : Row b n g w := h.congr (fun q hq => by unfold hyb; rw [if_pos hq])

set_option maxRecDepth 100000 in
set_option maxHeartbeats 4000000 in
theorem implJoinRuns_any (n : Int) (a : Option Addr) (m cap : Nat) (r : Nat → Int) (hl : m ≤ 1048576) (a' : Option Addr) (m' cap' : Nat) (r' : Nat → Int) (hl' : m' ≤ 1048576) (op : Int) (w : World) (h : Px a m r w) (h' : Px a' m' r' w) :
    Calls Try.prog 13 #[.int .i64 n, .slice a m cap, .slice a' m' cap', .int .i64 op] w (LsR (jruN n m r m' r' op) (rval (jruF op m r m' r') n.toNat) w) := by
  have HP := hide h
  have HP' := hide h'
  clear h h'
  obtain ⟨Q, hQ⟩ : ∃ Q, Q = LsR (jruN n m r m' r' op) (rval (jruF op m r m' r') n.toNat) w := ⟨_, rfl⟩
  rw [← hQ]
  have HQn : Hid (jruB n m r m' r' op = false → Q (.returned (.slice none 0 0)) w) := fun e => by
    rw [hQ]; unfold jruN; rw [e]; exact ⟨_, _, 0, rfl, .inl rfl, .inl rfl, Below.refl _ _⟩
  have HQy : Hid (jruB n m r m' r' op = true → Q = LsR (rcnt (jruF op m r m' r') n.toNat) (rval (jruF op m r m' r') n.toNat) w) := fun e => by
    rw [hQ]; unfold jruN; rw [e]; rfl
  clear hQ
  have cO := within_any op 1 3
  have cN := within_any n 1 4096
  cases hO : inB op 1 3
  · have HF := hide (HQn.out (by unfold jruB; rw [hO]; rfl))
    rw [hO] at cO
    clear HQn HQy HP HP' hO cN
    go_enter Try.func13, Try.ntmps13
    go_wp2_with fail
    refine (cO _).mono ?_
    rintro e w ⟨rfl, rfl⟩
    go_wp2_with fail
    exact HF.out
  cases hN : inB n 1 4096
  · have HF := hide (HQn.out (by unfold jruB; rw [hO, hN]; rfl))
    rw [hO] at cO
    rw [hN] at cN
    clear HQn HQy HP HP' hO hN
    go_enter Try.func13, Try.ntmps13
    go_wp2_with fail
    refine (cO _).mono ?_
    rintro e w ⟨rfl, rfl⟩
    go_wp2_with fail
    refine (cN _).mono ?_
    rintro e w ⟨rfl, rfl⟩
    go_wp2_with fail
    exact HF.out
  have ho3 : op = 1 ∨ op = 2 ∨ op = 3 := by unfold inB at hO; simp at hO; omega
  have hn : 1 ≤ n ∧ n ≤ 4096 := by unfold inB at hN; simpa using hN
  have c1 := fun w' h => areRuns_any a m cap r hl n (by omega) (by omega) w' h
  have c2 := fun w' h => areRuns_any a' m' cap' r' hl' n (by omega) (by omega) w' h
  have hB : jruB n m r m' r' op = (runB n m r && runB n m' r') := by unfold jruB; rw [hO, hN]; rfl
  rw [hB] at HQn HQy
  rw [hO] at cO
  rw [hN] at cN
  clear hB hO hN
  cases hR : runB n m r
  · have HF := hide (HQn.out (by rw [hR]; rfl))
    rw [hR] at c1
    clear HQn HQy hR c2 ho3 hn
    go_enter Try.func13, Try.ntmps13
    go_wp2_with fail
    refine (cO _).mono ?_
    rintro e w ⟨rfl, rfl⟩
    go_wp2_with fail
    refine (cN _).mono ?_
    rintro e w ⟨rfl, rfl⟩
    go_wp2_with fail
    refine (c1 _ HP.out).mono ?_
    rintro e w ⟨rfl, rfl⟩
    go_wp2_with fail
    exact HF.out
  cases hR' : runB n m' r'
  · have HF := hide (HQn.out (by rw [hR, hR']; rfl))
    rw [hR] at c1
    rw [hR'] at c2
    clear HQn HQy hR hR' ho3 hn
    go_enter Try.func13, Try.ntmps13
    go_wp2_with fail
    refine (cO _).mono ?_
    rintro e w ⟨rfl, rfl⟩
    go_wp2_with fail
    refine (cN _).mono ?_
    rintro e w ⟨rfl, rfl⟩
    go_wp2_with fail
    refine (c1 _ HP.out).mono ?_
    rintro e w ⟨rfl, rfl⟩
    go_wp2_with fail
    refine (c2 _ HP'.out).mono ?_
    rintro e w ⟨rfl, rfl⟩
    go_wp2_with fail
    exact HF.out
  have HQ := hide (HQy.out (by rw [hR, hR']; rfl))
  obtain ⟨q1, q2⟩ := runB_parts hR
  obtain ⟨q3, q4⟩ := runB_parts hR'
  have d1 := fun w' h => pixelsOfRuns_any a m cap r hl n (by omega) (by omega) q1 w' h
  have d2 := fun w' h => pixelsOfRuns_any a' m' cap' r' hl' n (by omega) (by omega) q3 w' h
  have cJ := fun k w' => joinPixels_any (rbit r m k) (rbit r' m' k) op (rbit_01 _ _ _) (rbit_01 _ _ _) ho3 w'
  unfold LsR at d1 d2
  rw [q2] at d1
  rw [q4] at d2
  rw [hR] at c1
  rw [hR'] at c2
  obtain ⟨M, rfl⟩ : ∃ M : Nat, n = M := ⟨n.toNat, by omega⟩
  rw [Int.toNat_natCast] at d1 d2 HQ
  have cR := fun a1 c w' h => runsIn_any a1 M c (jruF op m r m' r') (by omega) w' h
  unfold LsR at cR
  have HJ : Hid (∀ k, jpx op (rbit r m k) (rbit r' m' k) = jruF op m r m' r' k) := fun _ => rfl
  clear HQn HQy hR hR' q1 q2 q3 q4 ho3
  generalize rbit r m = x at *
  generalize rbit r' m' = y at *
  generalize jruF op m r m' r' = g at *
  go_enter Try.func13, Try.ntmps13
  go_wp2_with fail
  refine (cO _).mono ?_
  rintro e w ⟨rfl, rfl⟩
  go_wp2_with fail
  refine (cN _).mono ?_
  rintro e w ⟨rfl, rfl⟩
  go_wp2_with fail
  refine (c1 _ HP.out).mono ?_
  rintro e w ⟨rfl, rfl⟩
  go_wp2_with fail
  refine (c2 _ HP'.out).mono ?_
  rintro e w ⟨rfl, rfl⟩
  clear c1 c2 cO cN
  go_wp2_with fail
  refine (d1 _ HP.out).mono ?_
  rintro e w1 ⟨a1, k1, b1, rfl, ow1, hB1, hb1⟩
  have HB1 := hide hb1
  have HP2 := hide (HP'.out.below hb1)
  clear d1 HP' HP
  go_wp2_with fail
  refine (d2 _ HP2.out).mono ?_
  rintro e w2 ⟨a2, k2, b2, rfl, ow2, hB2, hb2⟩
  obtain ⟨rfl, hr1⟩ := ow1.resolve_left (by omega)
  obtain ⟨rfl, hr2⟩ := ow2.resolve_left (by omega)
  have hlt1 : b1 < w1.heap.size := World.block_lt_of_cell? _ _ (hr1 0 (by omega)).1
  have hge2 : w1.heap.size ≤ b2 := hB2.resolve_left (by omega)
  have hge1 : w.heap.size ≤ b1 := hB1.resolve_left (by omega)
  have HR1 : Hid (Row b1 M (hyb g x 0) w2) := by rw [hyb_zero]; exact hr1.below hb2 hlt1
  have HR2 := hide hr2
  have HB2 := hide (bnext hb1 (Nat.le_refl _) hb2)
  have HNE : Hid (b1 ≠ b2) := by show _ ≠ _; omega
  have HG1 := hide hge1
  clear ow1 ow2 hB1 hB2 hb1 hb2 hr1 hr2 hlt1 hge1 hge2 d2 HP2 HB1
  go_wp2_with fail
  go_loopw [11, 12, 39] (fun _ _ i wr => ∃ k : Nat, k ≤ M ∧ i = .int .i64 k ∧ Row b1 M (hyb g x k) wr ∧ Row b2 M y wr ∧ Below w.heap.size w wr) (fun _ _ i _ => M - (intOf i).toNat)
  case atStart => exact ⟨0, by omega, rfl, HR1.out, HR2.out, HB2.out⟩
  case round =>
    obtain ⟨k, hk, rfl, r1, r2, hb⟩ := hrel
    clear HR1 HR2 HB2
    by_cases hlt : k < M
    · obtain ⟨z1, e1⟩ := r1 k hlt
      obtain ⟨z2, e2⟩ := r2 k hlt
      rw [hyb_at] at z1
      have cK := cJ k
      have HN1 := hide (r1.hybStep hlt (z := jpx op (x k) (y k)) (HJ.out k))
      have HN2 := hide (r2.set (p := ⟨b1, k, none⟩) HNE.out (.int .i64 (jpx op (x k) (y k))))
      have HNB := hide (hb.setCell (p := ⟨b1, k, none⟩) HG1.out (.int .i64 (jpx op (x k) (y k))))
      clear r1 r2 hb cJ HJ cR HQ
      generalize jpx op (x k) (y k) = Z at *
      generalize x k = X at *
      generalize y k = Y at *
      go_wp2_with fail
      refine (cK _).mono ?_
      rintro e w3 ⟨rfl, rfl⟩
      go_wp2_with fail
      exact ⟨⟨k + 1, by omega, rfl, HN1.out, HN2.out, HNB.out⟩, by simp [intOf]; omega⟩
    · obtain rfl : k = M := by omega
      have HPx := hide r1.hybDone.px
      have HB := hide hb
      clear r1 r2 hb cJ HJ
      go_wp2_with fail
      refine (cR _ _ _ HPx.out).mono ?_
      rintro e w3 ⟨a3, k3, b3, rfl, ow3, hB3, hb3⟩
      have HF : Hid (Q (.returned (.slice a3 (rcnt g k) k3)) w3) := by
        rw [HQ.out]
        exact ⟨_, _, b3, rfl, ow3, hB3.imp_right (fun h => Nat.le_trans HB.out.size h), bnext HB.out (Nat.le_refl _) hb3⟩
      clear ow3 hB3 hb3 cR HQ HPx HB
      generalize rcnt g k = RC at *
      go_wp2_with fail
      exact HF.out

end Go.Proofs.Ytipkfaajngabmaa
