/- Joint counts: the program. -/
import Derived.Test.YtfpcenaaenondaaJcl
namespace Go.Proofs.Ytfpcenaaenondaa
open Go.RowKit

/-- are two images right and of one size -/
def jcB (W H : Int) (n : Nat) (f : Nat → Int) (W' H' : Int) (n' : Nat) (g : Nat → Int) : Bool := okB W H n f && (okB W' H' n' g && (decide (W = W') && decide (H = H')))
/-- their pairs -/
def prs (f g : Nat → Int) (n : Nat) : List (Int × Int) := (List.range n).map fun k => (f k, g k)
theorem prs_len (f g : Nat → Int) (n : Nat) : (prs f g n).length = n := by simp [prs]
theorem prs_at (f g : Nat → Int) {n k : Nat} (h : k < n) : (prs f g n)[k]? = some (f k, g k) := by simp [prs, h]
theorem prs_succ (f g : Nat → Int) (n : Nat) : prs f g (n + 1) = prs f g n ++ [(f n, g n)] := by simp [prs, List.range_succ]
/-- the joint counts of two images -/
def jcL (q : Bool) (f g : Nat → Int) (n : Nat) : List J3 := if q = true then jnt (prs f g n) else []
theorem jcL_len {q : Bool} {f g : Nat → Int} {n : Nat} : (jcL q f g n).length ≤ n := by
  unfold jcL
  split
  · have := (jnt_bd (prs f g n)).1
    rw [prs_len] at this; exact this
  · simp
/-- a list of joint counts is answered, by its numbers -/
def JlR (n : Nat) (s : Nat → Int) (w : World) (e : Ending) (w' : World) : Prop :=
  ∃ a cap b, e = .returned (.slice a n cap) ∧ Ow a b (n * 3) s w' ∧ (n * 3 = 0 ∨ w.heap.size ≤ b) ∧ Below w.heap.size w w'
def jlF (L : List J3) (q : Nat) : Int := (jl L).getD q 0
theorem JlR.of {L : List J3} {w w' : World} {B : Nat} {v : Value} (h : w'.ownsRow B 38 3 v L.length (ints (jl L))) (hw : w.heap.size ≤ B) (hb : Below w.heap.size w w') : JlR L.length (jlF L) w (.returned v) w' := by
  by_cases h0 : L.length = 0
  · obtain ⟨a, cap, rfl, -⟩ := own_sl h
    exact ⟨a, cap, 0, rfl, .inl (by omega), .inl (by omega), hb⟩
  · obtain ⟨a, cap, b, rfl, ho, hB, _⟩ := ow_of_some h (by omega)
    exact ⟨a, cap, b, rfl, ho, .inr (Nat.le_trans hw hB), hb⟩

def jF (f g : Nat → Int) (q : Nat) : Int := if q % 3 = 0 then f (q / 3) else if q % 3 = 1 then g (q / 3) else 1
theorem jF_at (f g : Nat → Int) (k : Nat) : jF f g (k * 3) = f k ∧ jF f g (k * 3 + 1) = g k ∧ jF f g (k * 3 + 2) = 1 := by
  unfold jF
  refine ⟨?_, ?_, ?_⟩
  · rw [show k * 3 % 3 = 0 by omega, show k * 3 / 3 = k by omega, if_pos rfl]
  · rw [show (k * 3 + 1) % 3 = 1 by omega, show (k * 3 + 1) / 3 = k by omega, if_neg (by omega), if_pos rfl]
  · rw [show (k * 3 + 2) % 3 = 2 by omega, if_neg (by omega), if_neg (by omega)]
set_option maxRecDepth 100000 in
theorem make_J (n : Nat) (h : n ≤ 1048576) (w : World) :
    (Instr.makeSlice 26 (.int .i64 n) (.int .i64 n)).run Try.prog w = .ok (.slice (some ⟨w.heap.size, 0, none⟩) n n) (w.alloc (.cells (madeCells #[.int .i64 0, .int .i64 0, .int .i64 0] (n * 3)) 38)) := by
  have := run_make (P := Try.prog) w 26 38 _ (vJoint 0 0 0) Try.underlying26 rfl rfl .i64 .i64 n n (by omega) (by omega) (by show (24 : Int) * _ ≤ _; omega) (by omega)
  rw [this]
  show Result.ok (Value.slice _ (n : Int).toNat (n : Int).toNat) (w.alloc (.cells (madeCells (Value.cells (vJoint 0 0 0)) ((n : Int).toNat * 3)) 38)) = _
  rw [Int.toNat_natCast]
  rfl
theorem made_J (n k : Nat) (h : k < n) : (madeCells #[Value.int .i64 0, Value.int .i64 0, Value.int .i64 0] n)[k]? = some (.int .i64 0) := by
  unfold madeCells
  rw [Array.getElem?_map, Array.getElem?_range, if_pos h]
  show some ((#[Value.int .i64 0, Value.int .i64 0, Value.int .i64 0] : Array Value)[k % 3]!) = _
  have h2 : k % 3 = 0 ∨ k % 3 = 1 ∨ k % 3 = 2 := by omega
  rcases h2 with h2 | h2 | h2 <;> rw [h2] <;> rfl
theorem part_J (n : Nat) (g : Nat → Int) (w : World) : Part w.heap.size n 0 g (w.alloc (.cells (madeCells #[.int .i64 0, .int .i64 0, .int .i64 0] n) 38)) := by
  intro j hj
  have := made_J n j hj
  exact ⟨⟨0, by simp [go_sem, this], fun h => absurd h (Nat.not_lt_zero _)⟩, by simp [go_sem]⟩
theorem holds_of_row {b n : Nat} {f g : Nat → Int} {w : World} (h : Row b (n * 3) (jF f g) w) : Go.Sort.HoldsK encJ 3 w b 0 (prs f g n).toArray := by
  unfold Go.Sort.HoldsK
  intro j hj
  rw [Go.Sort.size_flatK] at hj
  have hs : (prs f g n).toArray.size = n := by simp [prs_len]
  rw [hs] at hj
  rw [Go.Sort.get_flatK _ _ _ _ (by rw [hs]; exact hj), Nat.zero_add]
  have hd : j / 3 < n := by omega
  have e : (prs f g n).toArray[j / 3]! = (f (j / 3), g (j / 3)) := by
    have := prs_at f g hd
    rw [getElem!_pos _ _ (by rw [hs]; exact hd)]
    rw [List.getElem?_eq_getElem (by rw [prs_len]; exact hd)] at this
    exact Option.some.inj this
  rw [e]
  refine ⟨?_, (h j hj).2⟩
  rw [(h j hj).1]
  unfold encJ jF
  have h3 : j % 3 = 0 ∨ j % 3 = 1 ∨ j % 3 = 2 := by omega
  rcases h3 with h3 | h3 | h3 <;> rw [h3] <;> rfl
theorem pxj_of_holds {b : Nat} {d : Array (Int × Int)} {w : World} (h : Go.Sort.HoldsK encJ 3 w b 0 d) : PxJ b d.toList w := by
  intro k p hp
  have hk : k < d.size := by
    have := (List.getElem?_eq_some_iff.1 hp).1
    simpa using this
  have e : d[k]! = p := by
    rw [getElem!_pos d k hk]
    have := (List.getElem?_eq_some_iff.1 hp).2
    simpa using this
  have h0 := (h.cell (i := k) (c := 0) hk (by omega)).1
  have h1 := (h.cell (i := k) (c := 1) hk (by omega)).1
  have h2 := (h.cell (i := k) (c := 2) hk (by omega)).1
  rw [e] at h0 h1 h2
  rw [Nat.zero_add] at h0 h1 h2
  exact ⟨h0, h1, h2⟩

theorem Part.size_lt3 {b len k : Nat} {f : Nat → Int} {w : World} (h : Part b len k f w) (hj : 0 < len) : b < w.heap.size := by
  obtain ⟨⟨z, hz, _⟩, _⟩ := h 0 hj
  exact World.block_lt_of_cell? w ⟨b, 0, none⟩ hz
set_option maxRecDepth 100000 in
set_option maxHeartbeats 1000000 in
theorem sameSize_any (W H : Int) (a : Option Addr) (n cap : Nat) (W' H' : Int) (a' : Option Addr) (n' cap' : Nat) (w : World) :
    Calls Try.prog 17 #[im W H a n cap, im W' H' a' n' cap'] w fun e w' => e = .returned (.bool (decide (W = W') && decide (H = H'))) ∧ Below w.heap.size w w' := by
  have HB : Hid (∀ o o', Below w.heap.size w ((w.alloc o).alloc o')) := fun o o' => (bnew _ _).alloc (by simp) _
  by_cases h1 : W = W'
  · have q1 : (W == W') = true := by simp [h1]
    have HH : Hid ((H == H') = decide (H = H')) := by show _ = _; by_cases h : H = H' <;> simp [h]
    rw [decide_eq_true h1, Bool.true_and]
    clear h1
    go_enter Try.func17, Try.ntmps17
    go_wp2_with fail
    go_ret
    exact ⟨by rw [← HH.out]; rfl, HB.out _ _⟩
  · have q1 : (W == W') = false := by simp [h1]
    rw [decide_eq_false h1, Bool.false_and]
    clear h1
    go_enter Try.func17, Try.ntmps17
    go_wp2_with fail
    go_ret
    exact ⟨rfl, HB.out _ _⟩

set_option maxRecDepth 100000 in
set_option maxHeartbeats 4000000 in
theorem implJointCounts_any (W H : Int) (a : Option Addr) (n cap : Nat) (f : Nat → Int) (hl : n ≤ 1048576) (W' H' : Int) (a' : Option Addr) (n' cap' : Nat) (g : Nat → Int) (hl' : n' ≤ 1048576) (w : World) (h : Px a n f w) (h' : Px a' n' g w) :
    Calls Try.prog 7 #[im W H a n cap, im W' H' a' n' cap'] w (JlR (jcL (jcB W H n f W' H' n' g) f g n).length (jlF (jcL (jcB W H n f W' H' n' g) f g n)) w) := by
  have HS0 := hide (((St.start w).box [.int .i64 W, .int .i64 H, .slice a n cap] 28).box' [.int .i64 W', .int .i64 H', .slice a' n' cap'] 28 (b := w.heap.size + 1) (by simp))
  have c0 := fun w' h => implOk_any W H a n cap f hl w' h
  have c1 := fun w' h => implOk_any W' H' a' n' cap' g hl' w' h
  have c2 := fun w' => sameSize_any W H a n cap W' H' a' n' cap' w'
  have HP := hide h
  have HP' := hide h'
  clear h h'
  have HJ : Hid (∀ q, (okB W H n f && (okB W' H' n' g && (decide (W = W') && decide (H = H')))) = q → jcL (jcB W H n f W' H' n' g) f g n = jcL q f g n) := fun q h => by unfold jcB; rw [h]
  have hnn : okB W H n f = true → okB W' H' n' g = true → (decide (W = W') && decide (H = H')) = true → n = n' ∧ 1 ≤ n ∧ n ≤ 4096 := fun h1 h2 h3 => by
    obtain ⟨x1, x2, x3, -⟩ := okB_parts h1
    obtain ⟨-, -, y3, -⟩ := okB_parts h2
    rw [Bool.and_eq_true, decide_eq_true_eq, decide_eq_true_eq] at h3
    have := prod_bounds x1 x2
    rw [← h3.1, ← h3.2] at y3
    omega
  have HNN := hide hnn
  clear hnn
  generalize jcL (jcB W H n f W' H' n' g) f g n = LL at *
  generalize okB W H n f = q1 at *
  generalize okB W' H' n' g = q2 at *
  generalize (decide (W = W') && decide (H = H')) = q3 at *
  have HNil : Hid (∀ w', Below w.heap.size w w' → JlR ([] : List J3).length (jlF []) w (.returned (.slice none 0 0)) w') := fun w' hb => ⟨none, 0, 0, rfl, .inl rfl, .inl rfl, hb⟩
  obtain ⟨i0, i1, i2⟩ := HS0.out.im3 1 rfl
  have x0 := HP.out.below HS0.out.below
  cases q1
  · have e : LL = [] := HJ.out false (by trivial)
    subst e
    clear HJ HNN HP HP' c1 c2
    go_enter Try.func7, Try.ntmps7
    go_wp2_with fail
    refine (c0 _ x0).mono ?_
    rintro e w1 ⟨rfl, hb⟩
    have HB := hide (HS0.out.next hb).below
    clear hb HS0 c0 x0 i0 i1 i2
    go_wp2_with fail
    go_ret
    exact HNil.out _ HB.out
  go_enter Try.func7, Try.ntmps7
  go_wp2_with fail
  refine (c0 _ x0).mono ?_
  rintro e w1 ⟨rfl, hb⟩
  have HS1 := hide (HS0.out.next hb)
  clear hb HS0 c0 x0 i0 i1 i2
  obtain ⟨j0, j1, j2⟩ := HS1.out.im3 0 rfl
  have x1 := HP'.out.below HS1.out.below
  cases q2
  · have e : LL = [] := HJ.out false (by trivial)
    subst e
    clear HJ HNN HP HP' c2
    go_wp2_with fail
    refine (c1 _ x1).mono ?_
    rintro e w2 ⟨rfl, hb⟩
    have HB := hide (HS1.out.next hb).below
    clear hb HS1 c1 x1 j0 j1 j2
    go_wp2_with fail
    go_ret
    exact HNil.out _ HB.out
  go_wp2_with fail
  refine (c1 _ x1).mono ?_
  rintro e w2 ⟨rfl, hb⟩
  have HS2 := hide (HS1.out.next hb)
  clear hb HS1 c1 x1 j0 j1 j2
  obtain ⟨j0, j1, j2⟩ := HS2.out.im3 0 rfl
  obtain ⟨i0, i1, i2⟩ := HS2.out.im3 1 rfl
  cases q3
  · have e : LL = [] := HJ.out false (by trivial)
    subst e
    clear HJ HNN HP HP'
    go_wp2_with fail
    refine (c2 _).mono ?_
    rintro e w3 ⟨rfl, hb⟩
    have HB := hide (HS2.out.next hb).below
    clear hb HS2 c2 j0 j1 j2 i0 i1 i2
    go_wp2_with fail
    go_ret
    exact HNil.out _ HB.out
  obtain ⟨rfl, hn1, hn4⟩ := HNN.out (by trivial) (by trivial) (by trivial)
  have e : LL = jnt (prs f g n) := HJ.out true (by trivial)
  subst e
  go_wp2_with fail
  refine (c2 _).mono ?_
  rintro e w3 ⟨rfl, hb⟩
  have HS3 := hide (HS2.out.next hb)
  clear hb HS2 c2 j0 j1 j2 i0 i1 i2 HJ HNN HNil
  have hmk := fun w' => make_J n (by omega) w'
  obtain ⟨i0, i1, i2⟩ := HS3.out.im3 1 rfl
  have hq0 := part_J (n * 3) (jF f g) w3
  have hb4 : Below w3.heap.size w3 (w3.alloc (.cells (madeCells #[.int .i64 0, .int .i64 0, .int .i64 0] (n * 3)) 38)) := bnew _ _
  have HQ0 := hide hq0
  have HB4 := hide hb4
  have hi2 := (hb4.cell (p := ⟨w.heap.size, 2, none⟩) (World.block_lt_of_cell? w3 _ i2)).trans i2
  clear hq0 hb4
  go_upto_region 4 with fail
  generalize w3.alloc (.cells (madeCells #[.int .i64 0, .int .i64 0, .int .i64 0] (n * 3)) 38) = w4 at *
  clear i0 i1 i2 hmk
  go_wp2_with fail
  clear hi2
  have HN := hide (And.intro hn1 hn4)
  clear hn1 hn4
  go_loopw [6, 7, 29] (fun _ _ i wr => ∃ k : Nat, k ≤ n ∧ i = .int .i64 k ∧ Part w3.heap.size (n * 3) (k * 3) (jF f g) wr ∧ Below w3.heap.size w3 wr) (fun _ _ i _ => n - (intOf i).toNat)
  case atStart => exact ⟨0, by omega, rfl, HQ0.out, HB4.out⟩
  case round =>
    obtain ⟨k, hk, rfl, hq, hb⟩ := hrel
    clear HQ0 HB4
    have HSr := hide (HS3.out.next hb)
    by_cases hlt : k < n
    · obtain ⟨b, off, rfl, z0⟩ := (HP.out.below HSr.out.below).at hlt
      obtain ⟨b', off', rfl, z1⟩ := (HP'.out.below HSr.out.below).at hlt
      obtain ⟨j0, j1, j2⟩ := HSr.out.im3 0 rfl
      obtain ⟨⟨y0, c0, _⟩, f0⟩ := hq (k * 3) (by omega)
      obtain ⟨⟨y1, c1, _⟩, f1⟩ := hq (k * 3 + 1) (by omega)
      obtain ⟨⟨y2, c2, _⟩, f2⟩ := hq (k * 3 + 2) (by omega)
      have HQ3 := hide (hq.stJoint (k := k * 3) (by omega))
      obtain ⟨e0, e1, e2⟩ := jF_at f g k
      rw [e0, e1, e2] at HQ3
      have HB3 := hide (((hb.setCell (p := ⟨w3.heap.size, k * 3, none⟩) (Nat.le_refl _) (.int .i64 (f k))).setCell (p := ⟨w3.heap.size, k * 3 + 1, none⟩) (Nat.le_refl _) (.int .i64 (g k))).setCell (p := ⟨w3.heap.size, k * 3 + 2, none⟩) (Nat.le_refl _) (.int .i64 1))
      clear hq hb HSr HP HP' e0 e1 e2 HN
      generalize f k = x at *
      generalize g k = y at *
      go_wp2_with fail
      refine ⟨⟨k + 1, by omega, rfl, ?_, HB3.out⟩, by simp [intOf]; omega⟩
      rw [Nat.succ_mul]; exact HQ3.out
    · obtain rfl : k = n := by omega
      have hH := holds_of_row hq.row
      have hds : (prs f g k).toArray.size = k := by simp [prs_len]
      have hlt3 : w3.heap.size < wr.heap.size := hq.size_lt3 (by have := HN.out; omega)
      have cS := sortF_any w3.heap.size k (prs f g k).toArray wr hH hlt3 (by rw [hds]; have := HN.out; omega)
      rw [hds] at cS
      have HB := hide HSr.out.below
      have HW3 := hide HS3.out.below.size
      clear hH hq hb HSr HP HP' hds HS3
      go_wp2_with fail
      refine cS.mono ?_
      rintro e w5 ⟨rfl, d', hp, hs, hh, hk⟩
      have hlen : d'.toList.length = k := by rw [hp.length_eq]; simp [prs_len]
      have cG := gathered_any w3.heap.size k d'.toList hs (by rw [hlen]; exact HN.out.2) w5 (pxj_of_holds hh)
      have ejn : jnt d'.toList = jnt (prs f g k) := jnt_perm (by simpa using hp)
      rw [hlen, ejn] at cG
      have HB5 := hide (HB.out.trans (hk.below HW3.out HB.out.size))
      clear cS hp hs hh hk hlen ejn HB
      unfold JnR at cG
      generalize jnt (prs f g k) = LL at *
      go_wp2_with fail
      refine cG.mono ?_
      rintro e w6 ⟨v, rfl, ho, hb⟩
      have HR := hide (JlR.of ho HB5.out.size (bnext HB5.out (Nat.le_refl _) hb))
      clear cG ho hb
      go_wp2_with fail
      go_ret
      exact HR.out

end Go.Proofs.Ytfpcenaaenondaa
