/- The draws of line sums. -/
import Derived.Test.YtcdklkebedpmnaaDl6
import Derived.Test.YtcdklkebedpmnaaLnc
import Derived.Test.YtcdklkebedpmnaaCln
import Derived.ArgAppend
import Derived.Deep.AppendLies
import Derived.Deep.DeepCutAuto
namespace Go.Proofs.Ytcdklkebedpmnaa
open Go.RowKit

/-- line sums are drawn -/
def DSum (p : Nat) (a : Option Addr) (len cap : Nat) (w : World) (e : Ending) (w' : World) : Prop :=
  ∃ x b m c g, e = .returned (.slice x m c) ∧ m ≤ 993 ∧ Ow x b m g w' ∧ (m = 0 ∨ w.heap.size ≤ b) ∧ Cur p a len cap w' ∧ Kept p w w'
/-- what is known on the way: the list at b -/
structure DQ (p : Nat) (a : Option Addr) (len cap : Nat) (w : World) (b m : Nat) (g : Nat → Int) (wr : World) : Prop where
  cur : Cur p a len cap wr
  kept : Kept p w wr
  row : Row b m g wr
  lo : w.heap.size ≤ b
  hi : m = 0 ∨ b < wr.heap.size
theorem DQ.step {p : Nat} {a : Option Addr} {len cap : Nat} {w : World} {b m : Nat} {g : Nat → Int} {wr w' : World} (h : DQ p a len cap w b m g wr) (hp : p < w.heap.size) (hc : Cur p a len cap w') (hk : Kept p wr w') : DQ p a len cap w b m g w' :=
  ⟨hc, h.kept.trans hk, h.row.kept6 hk (by have := h.lo; omega), h.lo, h.hi.imp id fun x => Nat.lt_of_lt_of_le x hk.size⟩
theorem DQ.next {p : Nat} {a : Option Addr} {len cap : Nat} {w : World} {b m : Nat} {g : Nat → Int} {wr w' : World} (h : DQ p a len cap w b m g wr) (hb : Below wr.heap.size wr w') : DQ p a len cap w b m g w' := by
  refine ⟨h.cur.below hb, h.kept.trans (Kept.of_below hb), ?_, h.lo, h.hi.imp id fun x => Nat.lt_of_lt_of_le x hb.size⟩
  rcases h.hi with h0 | h0
  · subst h0; exact fun k hk => absurd hk (Nat.not_lt_zero _)
  · exact h.row.below hb h0
theorem DQ.put {p : Nat} {a : Option Addr} {len cap : Nat} {w : World} {b m : Nat} {g : Nat → Int} {wr : World} (h : DQ p a len cap w b m g wr) (hp : p < w.heap.size) (hab : len = 0 ∨ ∀ b off, a = some ⟨b, off, none⟩ → b < w.heap.size) (k : Nat) (z : Int) : DQ p a len cap w b m (fun q => if q = k then z else g q) (wr.setCell ⟨b, k, none⟩ (.int .i64 z)) := by
  have hb : Below w.heap.size wr (wr.setCell ⟨b, k, none⟩ (.int .i64 z)) := (Below.refl _ _).setCell h.lo _
  exact ⟨h.cur.belowB hb hp hab, h.kept.belowB hb (Nat.le_refl _), h.row.upd6 z, h.lo, h.hi.imp id fun x => by simpa using x⟩
theorem DQ.drew {p : Nat} {a : Option Addr} {len cap : Nat} {w : World} {b m : Nat} {g : Nat → Int} {wr : World} (h : DQ p a len cap w b m g wr) : DQ p a len cap w b m g wr.drew := h.next (Below.refl _ _).drew
/-- the table of four, behind a draw -/
theorem tabQ {p : Nat} {w w' : World} (hp : p < w.heap.size) (hk : Kept p (w.alloc (.cells #[.int .i64 200000, .int .i64 200001, .int .i64 (-200000), .int .i64 (-200001)] 2)) w') :
    w'.cell? ⟨w.heap.size, 0, none⟩ = some (.int .i64 200000) ∧ w'.cell? ⟨w.heap.size, 1, none⟩ = some (.int .i64 200001) ∧ w'.cell? ⟨w.heap.size, 2, none⟩ = some (.int .i64 (-200000)) ∧ w'.cell? ⟨w.heap.size, 3, none⟩ = some (.int .i64 (-200001)) := by
  have hne : w.heap.size ≠ p := by omega
  refine ⟨hk.cell (a := ⟨w.heap.size, 0, none⟩) hne ?_, hk.cell (a := ⟨w.heap.size, 1, none⟩) hne ?_, hk.cell (a := ⟨w.heap.size, 2, none⟩) hne ?_, hk.cell (a := ⟨w.heap.size, 3, none⟩) hne ?_⟩ <;> rw [World.cell?_alloc_new] <;> rfl

set_option maxRecDepth 100000 in
set_option maxHeartbeats 4000000 in
theorem drawSums_any (p : Nat) (a : Option Addr) (len cap : Nat) (P : Nat) (hP : 1 ≤ P ∧ P ≤ 31) (w : World) (h : Cur p a len cap w) (hp : p < w.heap.size) (hab : len = 0 ∨ ∀ b off, a = some ⟨b, off, none⟩ → b < w.heap.size) :
    Calls Try.prog 43 #[.pointer (some ⟨p, 0, none⟩), .int .i64 P] w (DSum p a len cap w) := by
  have hnn : P * P ≤ 961 := Nat.mul_le_mul hP.2 hP.2
  have c1 := drawImage_any p a len cap (P : Int) (P : Int) (-20) 200 (P * P) (by simp) (by omega) w h hp hab
  have hlN : ∀ f, lnN (P : Int) (P : Int) (P * P) f ≤ 992 := fun f => by
    unfold lnN
    split
    · rw [Int.toNat_natCast]
      exact Nat.mul_le_mul (show P + 1 ≤ 32 by omega) hP.2
    · omega
  have HLN := hide hlN
  have HAB := hide hab
  generalize P * P = nn at *
  clear h hab hlN
  go_enter Try.func43, Try.ntmps43
  go_wp2_with fail
  refine c1.mono ?_
  rintro e w1 ⟨o, f, rfl, hr, ho, hc, hk⟩
  have cL := specLinesC_any (P : Int) (P : Int) (some ⟨o, 0, none⟩) nn nn f (by omega) w1 hr.px
  have hm := HLN.out f
  generalize lnN (P : Int) (P : Int) nn f = m at *
  generalize lnF (P : Int) f = g at *
  have HC1 := hide hc
  have HK1 := hide hk
  clear c1 hr ho hc hk HLN
  go_wp2_with fail
  refine cL.mono ?_
  rintro e w2 ⟨b, rfl, hr, hB, hb⟩
  have HD2 : Hid (DQ p a len cap w b m g w2) := ⟨HC1.out.below hb, HK1.out.trans (Kept.of_below hb), hr, Nat.le_trans HK1.out.size hB, by
    by_cases h0 : m = 0
    · exact .inl h0
    · exact .inr (World.block_lt_of_cell? w2 _ (hr 0 (by omega)).1)⟩
  clear cL hr hB hb HC1 HK1
  have HFIN : Hid (∀ g wr, DQ p a len cap w b m g wr → DSum p a len cap w (.returned (.slice (some ⟨b, 0, none⟩) m m)) wr) := fun g wr hD => ⟨_, b, m, m, g, rfl, by omega, .inr ⟨rfl, hD.row⟩, .inr hD.lo, hD.cur, hD.kept⟩
  go_upto_region 2 with fail
  go_cut [18] (fun s wc => ∃ bq : Bool, s = .bool bq ∧ (bq = true → 0 < m) ∧ DQ p a len cap w b m g wc)
  case first =>
    have hd := once_any p a len cap _ HD2.out.cur 3 (by omega) (by omega)
    go_wp2_with fail
    refine hd.mono ?_
    rintro e w3 ⟨q, rfl, hc, hk⟩
    have HD3 := hide (HD2.out.step hp hc hk)
    clear hd hc hk HD2
    cases q
    · go_wp2_with fail
      go_meet
      exact ⟨_, rfl, fun h => by simp at h, HD3.out⟩
    · by_cases h0 : 0 < m
      · have hni : (0 : Int) < (m : Int) := by omega
        go_wp2_with fail
        go_meet
        exact ⟨_, rfl, fun _ => h0, HD3.out⟩
      · obtain rfl : m = 0 := by omega
        go_wp2_with fail
        go_meet
        exact ⟨_, rfl, fun h => by simp at h, HD3.out⟩
  case rest =>
  obtain ⟨q, rfl, hq0, hD⟩ := hcut
  obtain ⟨w3, hw3⟩ : ∃ w3, w3 = wc := ⟨_, rfl⟩
  rw [← hw3] at hD
  rw [← hw3]
  clear hw3 HD2
  have HD3 := hide hD
  clear hD
  go_upto_if 18 with fail
  go_cut [] (fun wc => ∃ g', DQ p a len cap w b m g' wc)
  case first =>
    cases q
    · go_wp2_with fail
      go_meet
      exact ⟨g, HD3.out⟩
    · have h0 := hq0 rfl
      have hni : (0 : Int) < (m : Int) := by omega
      have hd := belowW_any p a len cap _ HD3.out.cur m (by omega) (by omega)
      go_wp2_with fail
      refine hd.mono ?_
      rintro e w4 ⟨i, rfl, hi0, hi1, hc, hk⟩
      obtain ⟨I, rfl⟩ : ∃ I : Nat, i = (I : Int) := ⟨i.toNat, by omega⟩
      have HD4 := hide (HD3.out.step hp hc hk)
      clear hd hc hk HD3
      have hIn : I < m := by omega
      obtain ⟨yc, yf⟩ := HD4.out.row I hIn
      have hd := from_any p a len cap _ HD4.out.drew.cur (-9) 9 (by omega) (by omega) (by omega)
      go_upto_region 4 with fail
      go_region_with (go_at_call 59; refine hd.mono ?_; rintro e w5 ⟨z, rfl, hz0, hz1, hc, hk⟩; have HD5 := hide (HD4.out.drew.step hp hc hk); obtain ⟨vc, vf⟩ := HD5.out.row I hIn; have HS := hide (fun z => HD5.out.put hp HAB.out I z))
      all_goals
        go_wp2_with fail
        go_meet
        exact ⟨_, HS.out _⟩
  case rest =>
  obtain ⟨g1, hD⟩ := hcut
  obtain ⟨w4, hw4⟩ : ∃ w4, w4 = wc := ⟨_, rfl⟩
  rw [← hw4] at hD
  rw [← hw4]
  clear hw4 HD3 hq0
  have HD4 := hide hD
  clear hD
  go_upto_region 5 with fail
  go_cut [39] (fun s wc => ∃ bq : Bool, s = .bool bq ∧ (bq = true → 0 < m) ∧ DQ p a len cap w b m g1 wc)
  case first =>
    have hd := once_any p a len cap _ HD4.out.cur 20 (by omega) (by omega)
    go_wp2_with fail
    refine hd.mono ?_
    rintro e w3 ⟨q, rfl, hc, hk⟩
    have HD5 := hide (HD4.out.step hp hc hk)
    clear hd hc hk HD4
    cases q
    · go_wp2_with fail
      go_meet
      exact ⟨_, rfl, fun h => by simp at h, HD5.out⟩
    · by_cases h0 : 0 < m
      · have hni : (0 : Int) < (m : Int) := by omega
        go_wp2_with fail
        go_meet
        exact ⟨_, rfl, fun _ => h0, HD5.out⟩
      · obtain rfl : m = 0 := by omega
        go_wp2_with fail
        go_meet
        exact ⟨_, rfl, fun h => by simp at h, HD5.out⟩
  case rest =>
  obtain ⟨q, rfl, hq0, hD⟩ := hcut
  obtain ⟨w5, hw5⟩ : ∃ w5, w5 = wc := ⟨_, rfl⟩
  rw [← hw5] at hD
  rw [← hw5]
  clear hw5 HD4
  have HD5 := hide hD
  clear hD
  go_upto_if 39 with fail
  go_cut [] (fun wc => ∃ g', DQ p a len cap w b m g' wc)
  case first =>
    cases q
    · go_wp2_with fail
      go_meet
      exact ⟨g1, HD5.out⟩
    · have h0 := hq0 rfl
      have hni : (0 : Int) < (m : Int) := by omega
      have HD6 := hide (HD5.out.next (bnew w5 (.cells #[.int .i64 200000, .int .i64 200001, .int .i64 (-200000), .int .i64 (-200001)] 2)))
      have hp5 : p < w5.heap.size := Nat.lt_of_lt_of_le hp HD5.out.kept.size
      have hd := below_any p a len cap _ HD6.out.cur 4 (by omega) (by omega)
      clear HD5
      go_wp2_with fail
      refine hd.mono ?_
      rintro e w6 ⟨i, rfl, hi0, hi1, hc, hk⟩
      have HD7 := hide (HD6.out.step hp hc hk)
      obtain ⟨x0, x1, x2, x3⟩ := tabQ hp5 hk
      clear hd hc hk HD6 hp5
      obtain ⟨yc, yf⟩ := HD7.out.row 0 h0
      have HS := hide (fun z => HD7.out.put hp HAB.out 0 z)
      clear HD7
      generalize w5.heap.size = Tq at *
      obtain rfl | rfl | rfl | rfl : i = 0 ∨ i = 1 ∨ i = 2 ∨ i = 3 := by omega
      all_goals
        go_wp2_with fail
        go_meet
        exact ⟨_, HS.out _⟩
  case rest =>
  obtain ⟨g2, hD⟩ := hcut
  obtain ⟨w6, hw6⟩ : ∃ w6, w6 = wc := ⟨_, rfl⟩
  rw [← hw6] at hD
  rw [← hw6]
  clear hw6 HD5 hq0
  have HD6 := hide hD
  clear hD
  have hd := once_any p a len cap _ HD6.out.cur 30 (by omega) (by omega)
  go_wp2_with fail
  refine hd.mono ?_
  rintro e w7 ⟨q, rfl, hc, hk⟩
  have HD7 := hide (HD6.out.step hp hc hk)
  clear hd hc hk HD6
  cases q
  · have HE := hide (HFIN.out _ _ HD7.out)
    clear HD7 HFIN
    go_wp2_with fail
    go_ret
    exact HE.out
  · obtain ⟨ti, hi1, hi2, hi3, hi4⟩ := info2
    have HI1 := hide hi1
    clear hi1 HFIN
    have HD8 := hide (HD7.out.next (bnew w7 (.cells #[.int .i64 0] 2)))
    clear HD7
    have HOL : Hid (∀ j u, (ints (fl g2 m))[j]? = some u → (w7.alloc (.cells #[.int .i64 0] 2)).cell? ⟨b, 0 + j, none⟩ = some u) := fun j u hu => by
      obtain ⟨hj, rfl⟩ := ints_fl g2 m j u hu
      rw [Nat.zero_add]; exact (HD8.out.row j hj).1
    have HNW : Hid (∀ j u, [Value.int .i64 0][j]? = some u → (w7.alloc (.cells #[.int .i64 0] 2)).cell? ((⟨w7.heap.size, 0, none⟩ : Addr).add j) = some u) := World.news_of_block (cs := #[.int .i64 0]) (t := 2) (fr := (0, 0)) (heap_alloc_new w7 _)
    go_wp2_with (at_builtin; refine wpList_append_arg _ rfl _ _ 24 rfl 2 ti (.int .i64 0) 1 8 Try.underlying24 HI1.out hi2 hi3 hi4 rfl (by omega) b 0 m m (ints (fl g2 m)) rfl (by rw [ints_length, fl_len, Nat.mul_one]) HOL.out ⟨w7.heap.size, 0, none⟩ 1 1 [.int .i64 0] rfl rfl HNW.out (by simp [Value.oneCell']) (fun hh => absurd hh (by omega)) (by unfold maxLen; omega) (by omega) (fun hh => absurd hh (by omega)) (fun _ => ?_))
    intro v' w8 hown hgrow
    have hb8 : Below (w7.alloc (.cells #[.int .i64 0] 2)).heap.size (w7.alloc (.cells #[.int .i64 0] 2)) w8 := (Below.refl _ _).grown hgrow (Nat.le_refl _) (fun k e => by cases e)
    have HD9 := hide (HD8.out.next hb8)
    have hown' : w8.ownsRow (w7.heap.size + 1) 2 1 v' (m + 1) (ints (fl g2 m ++ [0])) := by rw [ints_append]; exact hown
    obtain ⟨x, c, b8, rfl, ho, hB8, hl8⟩ := ow_of_some hown' (by omega)
    rw [Nat.mul_one] at ho
    have hsz : w.heap.size ≤ w7.heap.size + 1 := by
      have := HD8.out.kept.size
      rwa [World.size_alloc] at this
    have HE : Hid (DSum p a len cap w (.returned (.slice x (m + 1 : Nat) c)) w8) := ⟨x, b8, m + 1, c, _, rfl, by omega, ho, .inr (Nat.le_trans hsz hB8), HD9.out.cur, HD9.out.kept⟩
    clear hb8 hown hown' ho hB8 hl8 hsz HD8 HD9 HOL HNW hgrow
    go_wp2_with fail
    go_ret
    exact HE.out

end Go.Proofs.Ytcdklkebedpmnaa
