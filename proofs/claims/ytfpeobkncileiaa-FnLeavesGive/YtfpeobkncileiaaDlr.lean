/- Draws of rows and of leaves. -/
import Derived.Test.YtfpeobkncileiaaDpg
import Derived.Test.YtfpeobkncileiaaLlo
import Derived.Deep.CutBlock
import Derived.Deep.DeepCutAuto
namespace Go.Proofs.Ytfpeobkncileiaa
open Go.RowKit

/-- what is known while a list of numbers is being drawn -/
structure DN (p : Nat) (a : Option Addr) (len cap : Nat) (w : World) (v : Value) (n : Nat) (L : List Int) (wr : World) : Prop where
  cur : Cur p a len cap wr
  kept : Kept p w wr
  own : wr.ownsRow w.heap.size 2 1 v n (ints L)
theorem DN.step {p : Nat} {a : Option Addr} {len cap : Nat} {w : World} {v : Value} {n : Nat} {L : List Int} {wr w' : World} (h : DN p a len cap w v n L wr) (hp : p < w.heap.size) (hc : Cur p a len cap w') (hk : Kept p wr w') : DN p a len cap w v n L w' :=
  ⟨hc, h.kept.trans hk, owns_kept h.own hk hp⟩
theorem DN.grown {p : Nat} {a : Option Addr} {len cap : Nat} {w : World} {v v' : Value} {n n' : Nat} {L L' : List Int} {wr w' : World} (h : DN p a len cap w v n L wr) (hp : p < w.heap.size) (hab : len = 0 ∨ ∀ b off, a = some ⟨b, off, none⟩ → b < w.heap.size) (ho : w'.ownsRow w.heap.size 2 1 v' n' (ints L')) (hb : Below w.heap.size wr w') : DN p a len cap w v' n' L' w' :=
  ⟨h.cur.belowB hb hp hab, h.kept.belowB hb (Nat.le_refl _), ho⟩
/-- a row is drawn -/
def DrR (p : Nat) (a : Option Addr) (len cap : Nat) (w : World) (e : Ending) (w' : World) : Prop := ∃ v n L, e = .returned v ∧ n ≤ 11 ∧ DN p a len cap w v n L w'

set_option maxRecDepth 100000 in
set_option maxHeartbeats 4000000 in
theorem drawRow_any (p : Nat) (a : Option Addr) (len cap : Nat) (w : World) (h : Cur p a len cap w) (hp : p < w.heap.size) (hab : len = 0 ∨ ∀ b off, a = some ⟨b, off, none⟩ → b < w.heap.size) :
    Calls Try.prog 13 #[.pointer (some ⟨p, 0, none⟩)] w (DrR p a len cap w) := by
  have HAB := hide hab
  have HD0 : Hid (DN p a len cap w (.slice (some ⟨w.heap.size, 0, none⟩) 0 0) 0 [] (w.alloc (.cells #[] 2))) :=
    ⟨h.below (bnew _ _), Kept.of_below (bnew _ _), World.ownsRow_lit w #[] 0 (Nat.le_refl _) (by unfold maxLen; omega) rfl⟩
  have hd := below_any p a len cap _ HD0.out.cur 12 (by omega) (by omega)
  clear h hab
  go_enter Try.func13, Try.ntmps13
  go_wp2_with fail
  refine hd.mono ?_
  rintro e w2 ⟨m, rfl, m0, m1, hc, hk⟩
  have HD2 := hide (HD0.out.step hp hc hk)
  clear hd hc hk HD0
  obtain ⟨M, rfl⟩ : ∃ M : Nat, m = (M : Int) := ⟨m.toNat, by omega⟩
  go_wp2_with fail
  go_loopw [3, 4, 5] (fun v x i wr => ∃ (j k : Nat) (L : List Int) (y : Int), i = .int .i64 j ∧ x = .int .i64 y ∧ k + j = M ∧ DN p a len cap w v k L wr) (fun _ _ i _ => (intOf i).toNat)
  case atStart => exact ⟨M, 0, [], 0, rfl, rfl, by omega, HD2.out⟩
  case round =>
    obtain ⟨j, k, L, y, rfl, rfl, hn, hD⟩ := hrel
    have HD := hide hD
    have HN := hide hn
    clear hD HD2 hn
    by_cases hj : 0 < j
    · have hj1 : j ≤ 11 := by have := HN.out; omega
      have hd := once_any p a len cap _ HD.out.cur 3 (by omega) (by omega)
      go_wp2_with fail
      refine hd.mono ?_
      rintro e w3 ⟨q, rfl, hc, hk⟩
      have HD3 := hide (HD.out.step hp hc hk)
      clear hd hc hk HD
      cases q
      · have hd := below_any p a len cap _ HD3.out.cur 20 (by omega) (by omega)
        go_wp2_with fail
        refine hd.mono ?_
        rintro e w4 ⟨y4, rfl, y40, y41, hc, hk⟩
        have HD4 := hide (HD3.out.step hp hc hk)
        clear hd hc hk HD3
        have HOX := hide HD4.out.own
        have HBX : Hid (Below w.heap.size w4 w4) := Below.refl _ _
        have HSZ : Hid (w.heap.size ≤ w4.heap.size) := HD4.out.kept.size
        go_wp2_with (refine growL _ rfl _ _ rfl w.heap.size _ k L rfl w4 HOX.out HBX.out HSZ.out y4 rfl (by have := HN.out; omega) ?_)
        intro v' w5 ho5 hb5 _
        have HD5 := hide (HD4.out.grown hp HAB.out ho5 hb5)
        clear HOX HBX HSZ HD4 ho5 hb5
        go_wp2_with fail
        exact ⟨⟨j - 1, k + 1, L ++ [y4], y4, by congr 1; omega, rfl, by have := HN.out; omega, HD5.out⟩, by simp [intOf] <;> omega⟩
      · have HOX := hide HD3.out.own
        have HBX : Hid (Below w.heap.size w3 w3) := Below.refl _ _
        have HSZ : Hid (w.heap.size ≤ w3.heap.size) := HD3.out.kept.size
        go_wp2_with (refine growL _ rfl _ _ rfl w.heap.size _ k L rfl w3 HOX.out HBX.out HSZ.out y rfl (by have := HN.out; omega) ?_)
        intro v' w5 ho5 hb5 _
        have HD5 := hide (HD3.out.grown hp HAB.out ho5 hb5)
        clear HOX HBX HSZ HD3 ho5 hb5
        go_wp2_with fail
        exact ⟨⟨j - 1, k + 1, L ++ [y], y, by congr 1; omega, rfl, by have := HN.out; omega, HD5.out⟩, by simp [intOf] <;> omega⟩
    · obtain rfl : j = 0 := by omega
      have hk11 : k ≤ 11 := by have := HN.out; omega
      go_wp2_with fail
      go_ret
      exact ⟨_, k, L, rfl, hk11, HD.out⟩

/-- a list of numbers is drawn -/
def DrL (w : World) (e : Ending) (w' : World) : Prop := ∃ v n L, e = .returned v ∧ n ≤ 65 ∧ w'.ownsRow w.heap.size 2 1 v n (ints L) ∧ Below w.heap.size w w'

theorem own_monoR {w : World} {B B' n m : Nat} {e : TypeId} {v : Value} {xs : List Value} (h : w.ownsRow B e m v n xs) (hB : B' ≤ B) : w.ownsRow B' e m v n xs := by
  obtain ⟨h1, h2⟩ := h
  refine ⟨h1, ?_⟩
  rcases h2 with h2 | ⟨g, cap, cur, hv, hg, hr⟩
  · exact .inl h2
  · exact .inr ⟨g, cap, cur, hv, Nat.le_trans hB hg, hr⟩
theorem own_isR {w : World} {B n m : Nat} {e : TypeId} {v : Value} {xs : List Value} (h : w.ownsRow B e m v n xs) : ∃ a cap, v = .slice a n cap := by
  obtain ⟨_, ⟨rfl, rfl⟩ | ⟨g, cap, cur, hv, _⟩⟩ := h
  · exact ⟨none, 0, rfl⟩
  · exact ⟨_, cap, hv⟩
theorem bytes_ltR {a : Option Addr} {len : Nat} {w : World} (h : Bytes a len w) {B : Nat} (hB : w.heap.size ≤ B) : len = 0 ∨ ∀ b off, a = some ⟨b, off, none⟩ → b < B := by
  by_cases h0 : len = 0
  · exact .inl h0
  · refine .inr fun b off e => ?_
    rcases h.2 with h1 | ⟨b', off', ha, hb⟩
    · exact absurd h1 h0
    · obtain ⟨z, _, _, hz⟩ := hb 0 (by omega)
      rw [e] at ha
      cases ha
      exact Nat.lt_of_lt_of_le (World.block_lt_of_cell? w _ hz) hB
/-- a table of three that lies in a new block, behind draws -/
theorem tab3 {w w' : World} {p : Nat} {x0 x1 x2 : Int} (hp : p < w.heap.size) (hk : Kept p (w.alloc (.cells #[.int .i64 x0, .int .i64 x1, .int .i64 x2] 2)) w') : w'.cell? ⟨w.heap.size, 0, none⟩ = some (.int .i64 x0) ∧ w'.cell? ⟨w.heap.size, 1, none⟩ = some (.int .i64 x1) ∧ w'.cell? ⟨w.heap.size, 2, none⟩ = some (.int .i64 x2) := by
  have hb := Bx.new [.int .i64 x0, .int .i64 x1, .int .i64 x2] 2 w
  have hb' := hb.kept hk (by omega)
  exact ⟨(hb' 0 _ rfl).1, (hb' 1 _ rfl).1, (hb' 2 _ rfl).1⟩
theorem DN.alloc {p : Nat} {a : Option Addr} {len cap : Nat} {w : World} {v : Value} {n : Nat} {L : List Int} {wr : World} (h : DN p a len cap w v n L wr) (o : Obj) : DN p a len cap w v n L (wr.alloc o) :=
  ⟨h.cur.below (bnew _ _), h.kept.trans (Kept.of_below (bnew _ _)), h.own.alloc _⟩

set_option maxRecDepth 100000 in
set_option maxHeartbeats 4000000 in
theorem drawLeaves_any (a : Option Addr) (len cap : Nat) (w : World) (h : Bytes a len w) :
    Calls Try.prog 5 #[.slice a len cap] w (DrL w) := by
  have hn := new_any a len cap w h
  have HAB := hide (bytes_ltR h (B := w.heap.size) (Nat.le_refl _))
  have HBY := hide h
  clear h
  go_enter Try.func5, Try.ntmps5
  go_wp2_with fail
  refine hn.mono ?_
  rintro e w1' ⟨x, rfl, rfl⟩
  have HC1 := hide (cur_new a len cap w HBY.out x)
  have HB1 := hide (bnew w (.cells #[.slice a len cap, .int .i64 0, .int .i64 x] 50))
  obtain ⟨w1, hw1⟩ : ∃ w1, w1 = w.alloc (.cells #[.slice a len cap, .int .i64 0, .int .i64 x] 50) := ⟨_, rfl⟩
  have hs1 : w1.heap.size = w.heap.size + 1 := by rw [hw1]; simp
  rw [← hw1] at HC1 HB1
  rw [← hw1]
  clear hw1 hn HBY
  obtain ⟨p, hp⟩ : ∃ p, p = w.heap.size := ⟨_, rfl⟩
  rw [← hp] at HC1
  rw [← hp]
  have hp1 : p < w1.heap.size := by omega
  have HAB1 : Hid (len = 0 ∨ ∀ b off, a = some ⟨b, off, none⟩ → b < w1.heap.size) := HAB.out.imp id fun h b off e => by have := h b off e; omega
  have HPE := hide (And.intro hp hs1)
  clear hp hs1 HAB
  have cR := drawRow_any p a len cap w1 HC1.out hp1 HAB1.out
  go_wp2_with fail
  refine cR.mono ?_
  rintro e w2 ⟨v, n, L, rfl, hn11, hD⟩
  obtain ⟨av, cv, rfl⟩ := own_isR hD.own
  have HD2 := hide hD
  clear cR hD HC1
  have HFIN : Hid (∀ v n L wr, n ≤ 65 → DN p a len cap w1 v n L wr → DrL w (.returned v) wr) := fun v n L wr hn hD => by
    have hq := HPE.out
    exact ⟨v, n, L, rfl, hn, own_monoR hD.own (by omega), HB1.out.trans (hD.kept.below (by omega) (by omega))⟩
  go_upto_region 3 with fail
  go_cut [15] (fun s wc => ∃ bq : Bool, s = .bool bq ∧ (bq = true → 0 < n) ∧ DN p a len cap w1 (.slice av n cv) n L wc)
  case first =>
    have hd := once_any p a len cap _ HD2.out.cur 12 (by omega) (by omega)
    go_wp2_with fail
    refine hd.mono ?_
    rintro e w3 ⟨q, rfl, hc, hk⟩
    have HD3 := hide (HD2.out.step hp1 hc hk)
    clear hd hc hk HD2
    cases q
    · go_wp2_with fail
      go_meet
      exact ⟨_, rfl, fun h => by simp at h, HD3.out⟩
    · by_cases h0 : 0 < n
      · have hni : (0 : Int) < (n : Int) := by omega
        go_wp2_with fail
        go_meet
        exact ⟨_, rfl, fun _ => h0, HD3.out⟩
      · obtain rfl : n = 0 := by omega
        go_wp2_with fail
        go_meet
        exact ⟨_, rfl, fun h => by simp at h, HD3.out⟩
  case rest =>
  obtain ⟨q, rfl, hq0, hD⟩ := hcut
  obtain ⟨w3, hw3⟩ : ∃ w3, w3 = wc := ⟨_, rfl⟩
  rw [← hw3] at hD
  rw [← hw3]
  clear hw3 HD2
  have HD3 := hide hD
  clear hD
  go_upto_if 15 with fail
  go_cut [4] (fun s wc => ∃ v n L, s = v ∧ n ≤ 11 ∧ DN p a len cap w1 v n L wc)
  case first =>
    cases q
    · go_wp2_with fail
      go_meet
      exact ⟨_, n, L, rfl, hn11, HD3.out⟩
    · have h0 := hq0 rfl
      · have hni : (0 : Int) < (n : Int) := by omega
        obtain ⟨b, c, hv, hB, hcell⟩ := own_partsL HD3.out.own h0
        cases hv
        have hd := below_any p a len cap _ HD3.out.cur n (by omega) (by omega)
        clear hcell
        go_wp2_with fail
        refine hd.mono ?_
        rintro e w4 ⟨i, rfl, hi0, hi1, hc, hk⟩
        obtain ⟨I, rfl⟩ : ∃ I : Nat, i = (I : Int) := ⟨i.toNat, by omega⟩
        have HD4 := hide (HD3.out.step hp1 hc hk)
        clear hd hc hk HD3
        have HD5 := hide (HD4.out.alloc (.cells #[.int .i64 (-1), .int .i64 1000, .int .i64 1001] 2))
        have HP4 : Hid (p < w4.heap.size) := Nat.lt_of_lt_of_le hp1 HD4.out.kept.size
        have hd := below_any p a len cap _ HD5.out.cur 3 (by omega) (by omega)
        go_wp2_with fail
        refine hd.mono ?_
        rintro e w6 ⟨m, rfl, hm0, hm1, hc, hk⟩
        have HD6 := hide (HD5.out.step hp1 hc hk)
        obtain ⟨x0, x1, x2⟩ := tab3 HP4.out hk
        clear hd hc hk HD5
        obtain ⟨b', c', hv, hB', hcell⟩ := own_partsL HD6.out.own h0
        cases hv
        obtain ⟨yc, yf⟩ := hcell I (by omega)
        have hIn : (I : Int) < (n : Int) := by omega
        have HS : Hid (∀ z : Int, DN p a len cap w1 (.slice (some ⟨b, 0, none⟩) n cv) n (L.set I z) (w6.setCell ⟨b, I, none⟩ (.int .i64 z))) := fun z => by
          have hb : Below w1.heap.size w6 (w6.setCell ⟨b, I, none⟩ (.int .i64 z)) := (Below.refl _ _).setCell hB' _
          exact HD6.out.grown hp1 HAB1.out (own_setL HD6.out.own I z) hb
        clear hcell HD6 HP4 HD4
        generalize w4.heap.size = Tq at *
        obtain rfl | rfl | rfl : m = 0 ∨ m = 1 ∨ m = 2 := by omega
        · go_wp2_with fail
          go_meet
          exact ⟨_, n, _, rfl, hn11, HS.out _⟩
        · go_wp2_with fail
          go_meet
          exact ⟨_, n, _, rfl, hn11, HS.out _⟩
        · go_wp2_with fail
          go_meet
          exact ⟨_, n, _, rfl, hn11, HS.out _⟩
  case rest =>
    obtain ⟨v, n, L, rfl, hn, hD⟩ := hcut
    obtain ⟨av, cv, rfl⟩ := own_isR hD.own
    obtain ⟨w4, hw4⟩ : ∃ w4, w4 = wc := ⟨_, rfl⟩
    rw [← hw4] at hD
    rw [← hw4]
    clear hw4 HD3 hn11
    have HD4 := hide hD
    clear hD
    have hd := once_any p a len cap _ HD4.out.cur 40 (by omega) (by omega)
    go_wp2_with fail
    refine hd.mono ?_
    rintro e w5 ⟨q, rfl, hc, hk⟩
    have HD5 := hide (HD4.out.step hp1 hc hk)
    clear hd hc hk HD4
    cases q
    · have HF := hide (HFIN.out _ n L w5 (by omega) HD5.out)
      go_wp2_with fail
      go_ret
      exact HF.out
    · go_wp2_with fail
      go_loopw [4] (fun s wr => ∃ v n L, s = v ∧ n ≤ 65 ∧ DN p a len cap w1 v n L wr) (fun s _ => 66 - (match s with | .slice _ n _ => n | _ => 0))
      case atStart => exact ⟨_, n, L, rfl, by omega, HD5.out⟩
      case round =>
        obtain ⟨v, n, L, rfl, hn, hD⟩ := hrel
        obtain ⟨av, cv, rfl⟩ := own_isR hD.own
        have HD := hide hD
        clear hD HD5
        have hd := below_any p a len cap _ HD.out.cur 2 (by omega) (by omega)
        go_wp2_with fail
        refine hd.mono ?_
        rintro e w6 ⟨x, rfl, hx0, hx1, hc, hk⟩
        have HD6 := hide (HD.out.step hp1 hc hk)
        clear hd hc hk HD
        have u1 : IntKind.i64.wrap (64 + x) = 64 + x := by rw [IntKind.wrap_i64]; omega
        by_cases hlt : (n : Int) < 64 + x
        · have hd := below_any p a len cap _ HD6.out.cur 9 (by omega) (by omega)
          go_wp2_with fail
          refine hd.mono ?_
          rintro e w7 ⟨y, rfl, hy0, hy1, hc, hk⟩
          have HD7 := hide (HD6.out.step hp1 hc hk)
          clear hd hc hk HD6 u1
          have HOX := hide HD7.out.own
          have HBX : Hid (Below w1.heap.size w7 w7) := Below.refl _ _
          have HSZ : Hid (w1.heap.size ≤ w7.heap.size) := HD7.out.kept.size
          go_wp2_with (refine growL _ rfl _ _ rfl w1.heap.size _ n L rfl w7 HOX.out HBX.out HSZ.out y rfl (by omega) ?_)
          intro v' w8 ho8 hb8 _
          have HD8 := hide (HD7.out.grown hp1 HAB1.out ho8 hb8)
          obtain ⟨av', cv', rfl⟩ := own_isR ho8
          clear HOX HBX HSZ HD7 ho8 hb8
          go_wp2_with fail
          exact ⟨⟨_, n + 1, L ++ [y], rfl, by omega, HD8.out⟩, by simp <;> omega⟩
        · have HF := hide (HFIN.out _ n L w6 hn HD6.out)
          go_wp2_with fail
          go_ret
          exact HF.out

/-- leaves and a number are drawn -/
def DrG (w : World) (e : Ending) (w' : World) : Prop := ∃ v m F z, e = .returned (.tuple #[v, .int .i64 z]) ∧ m ≤ 65001 ∧ (-1 ≤ z ∧ z ≤ 65) ∧ w'.ownsRow w.heap.size 42 3 v m (ints F) ∧ Below w.heap.size w w'
/-- what is known while leaves are being drawn -/
structure DG (p : Nat) (a : Option Addr) (len cap : Nat) (w : World) (v : Value) (n : Nat) (L : List Int) (wr : World) : Prop where
  cur : Cur p a len cap wr
  kept : Kept p w wr
  own : wr.ownsRow w.heap.size 42 3 v n (ints L)
theorem DG.step {p : Nat} {a : Option Addr} {len cap : Nat} {w : World} {v : Value} {n : Nat} {L : List Int} {wr w' : World} (h : DG p a len cap w v n L wr) (hp : p < w.heap.size) (hc : Cur p a len cap w') (hk : Kept p wr w') : DG p a len cap w v n L w' :=
  ⟨hc, h.kept.trans hk, owns_kept h.own hk hp⟩
theorem DG.grown {p : Nat} {a : Option Addr} {len cap : Nat} {w : World} {v v' : Value} {n n' : Nat} {L L' : List Int} {wr w' : World} (h : DG p a len cap w v n L wr) (hp : p < w.heap.size) (hab : len = 0 ∨ ∀ b off, a = some ⟨b, off, none⟩ → b < w.heap.size) (ho : w'.ownsRow w.heap.size 42 3 v' n' (ints L')) (hb : Below w.heap.size wr w') : DG p a len cap w v' n' L' w' :=
  ⟨h.cur.belowB hb hp hab, h.kept.belowB hb (Nat.le_refl _), ho⟩
theorem DG.alloc {p : Nat} {a : Option Addr} {len cap : Nat} {w : World} {v : Value} {n : Nat} {L : List Int} {wr : World} (h : DG p a len cap w v n L wr) (o : Obj) : DG p a len cap w v n L (wr.alloc o) :=
  ⟨h.cur.below (bnew _ _), h.kept.trans (Kept.of_below (bnew _ _)), h.own.alloc _⟩
theorem own_pxR {w : World} {B n : Nat} {a : Option Addr} {c : Nat} {L : List Int} (h : w.ownsRow B 2 1 (.slice a n c) n (ints L)) : Px a n (fun k => L.getD k 0) w := by
  by_cases h0 : 0 < n
  · obtain ⟨b, c', hv, -, hc⟩ := own_partsL h h0
    cases hv
    exact .inr ⟨b, 0, rfl, fun k hk => by rw [Nat.zero_add]; exact (hc k hk).1⟩
  · exact .inl (by omega)

set_option maxRecDepth 100000 in
set_option maxHeartbeats 4000000 in
theorem drawGiven_any (a : Option Addr) (len cap : Nat) (w : World) (h : Bytes a len w) :
    Calls Try.prog 10 #[.slice a len cap] w (DrG w) := by
  have hn := new_any a len cap w h
  have HAB := hide (bytes_ltR h (B := w.heap.size) (Nat.le_refl _))
  have HBY := hide h
  clear h
  go_enter Try.func10, Try.ntmps10
  go_wp2_with fail
  refine hn.mono ?_
  rintro e w1' ⟨x, rfl, rfl⟩
  have HC1 := hide (cur_new a len cap w HBY.out x)
  have HB1 := hide (bnew w (.cells #[.slice a len cap, .int .i64 0, .int .i64 x] 50))
  obtain ⟨w1, hw1⟩ : ∃ w1, w1 = w.alloc (.cells #[.slice a len cap, .int .i64 0, .int .i64 x] 50) := ⟨_, rfl⟩
  have hs1 : w1.heap.size = w.heap.size + 1 := by rw [hw1]; simp
  rw [← hw1] at HC1 HB1
  rw [← hw1]
  clear hw1 hn HBY
  obtain ⟨p, hp⟩ : ∃ p, p = w.heap.size := ⟨_, rfl⟩
  rw [← hp] at HC1
  rw [← hp]
  have hp1 : p < w1.heap.size := by omega
  have HAB1 : Hid (len = 0 ∨ ∀ b off, a = some ⟨b, off, none⟩ → b < w1.heap.size) := HAB.out.imp id fun h b off e => by have := h b off e; omega
  have HPE := hide (And.intro hp hs1)
  clear hp hs1 HAB
  have cR := drawRow_any p a len cap w1 HC1.out hp1 HAB1.out
  go_wp2_with fail
  refine cR.mono ?_
  rintro e w2 ⟨v, n, L, rfl, hn11, hD⟩
  obtain ⟨av, cv, rfl⟩ := own_isR hD.own
  have HD2 := hide hD
  clear cR hD HC1
  have cL := specLeavesO_any av n cv (fun k => L.getD k 0) (by omega) w2 (own_pxR HD2.out.own)
  have hm := lvN_small n (fun k => L.getD k 0)
  generalize lvN n (fun k => L.getD k 0) = m at *
  generalize lvL n (fun k => L.getD k 0) = F at *
  go_wp2_with fail
  refine cL.mono ?_
  rintro e w3 ⟨vl, rfl, ho, hb⟩
  obtain ⟨al, cl, rfl⟩ := own_isR ho
  have HG3 : Hid (DG p a len cap w1 (.slice al m cl) m F w3) := ⟨HD2.out.cur.below hb, HD2.out.kept.trans (Kept.of_below hb), own_monoR ho HD2.out.kept.size⟩
  clear cL ho hb HD2
  have hd := once_any p a len cap _ HG3.out.cur 6 (by omega) (by omega)
  go_wp2_with fail
  refine hd.mono ?_
  rintro e w4 ⟨q, rfl, hc, hk⟩
  have HG4 := hide (HG3.out.step hp1 hc hk)
  clear hd hc hk HG3
  go_upto_if 17 with fail
  go_cut [6] (fun s wc => ∃ v m F, s = v ∧ m ≤ 65001 ∧ DG p a len cap w1 v m F wc)
  case first =>
    cases q
    · go_wp2_with fail
      go_meet
      exact ⟨_, m, F, rfl, by omega, HG4.out⟩
    · have hd := fromG p a len cap _ HG4.out.cur (-1) 9
      go_wp2_with fail
      refine hd.mono ?_
      rintro e w5 ⟨z0, rfl, hc, hk⟩
      have HG5 := hide (HG4.out.step hp1 hc hk)
      clear hd hc hk HG4
      have hd := fromG p a len cap _ HG5.out.cur 0 12
      go_wp2_with fail
      refine hd.mono ?_
      rintro e w6 ⟨z1, rfl, hc, hk⟩
      have HG6 := hide (HG5.out.step hp1 hc hk)
      clear hd hc hk HG5
      have hd := fromG p a len cap _ HG6.out.cur 0 3
      go_wp2_with fail
      refine hd.mono ?_
      rintro e w7 ⟨z2, rfl, hc, hk⟩
      have HG7 := hide (HG6.out.step hp1 hc hk)
      clear hd hc hk HG6
      have HOX := hide HG7.out.own
      have HBX : Hid (Below w1.heap.size w7 w7) := Below.refl _ _
      have HSZ : Hid (w1.heap.size ≤ w7.heap.size) := HG7.out.kept.size
      go_wp2_with (refine growLf _ rfl _ _ rfl w1.heap.size _ m F rfl w7 HOX.out HBX.out HSZ.out z0 z1 z2 rfl (by omega) ?_)
      intro v' w8 ho8 hb8 _ _ _
      have HG8 := hide (HG7.out.grown hp1 HAB1.out ho8 hb8)
      clear HOX HBX HSZ HG7 ho8 hb8
      go_wp2_with fail
      go_meet
      exact ⟨_, m + 1, _, rfl, by omega, HG8.out⟩
  case rest =>
    obtain ⟨vl, m', F', rfl, hm', hG⟩ := hcut
    obtain ⟨al', cl', rfl⟩ := own_isR hG.own
    obtain ⟨w5, hw5⟩ : ∃ w5, w5 = wc := ⟨_, rfl⟩
    rw [← hw5] at hG
    rw [← hw5]
    clear hw5 HG4
    have HG5 := hide hG
    clear hG
    have hd := once_any p a len cap _ HG5.out.cur 20 (by omega) (by omega)
    go_wp2_with fail
    refine hd.mono ?_
    rintro e w6 ⟨q, rfl, hc, hk⟩
    have HG6 := hide (HG5.out.step hp1 hc hk)
    clear hd hc hk HG5
    go_upto_if 29 with fail
    go_cut [7] (fun s wc => ∃ z : Int, s = .int .i64 z ∧ (-1 ≤ z ∧ z ≤ 65) ∧ DG p a len cap w1 (.slice al' m' cl') m' F' wc)
    case first =>
      cases q
      · go_wp2_with fail
        go_meet
        exact ⟨_, rfl, ⟨by omega, by omega⟩, HG6.out⟩
      · have HG7 := hide (HG6.out.alloc (.cells #[.int .i64 (-1), .int .i64 64, .int .i64 65] 2))
        have HP6 : Hid (p < w6.heap.size) := Nat.lt_of_lt_of_le hp1 HG6.out.kept.size
        have hd := below_any p a len cap _ HG7.out.cur 3 (by omega) (by omega)
        go_wp2_with fail
        refine hd.mono ?_
        rintro e w8 ⟨i, rfl, hi0, hi1, hc, hk⟩
        have HG8 := hide (HG7.out.step hp1 hc hk)
        obtain ⟨x0, x1, x2⟩ := tab3 HP6.out hk
        clear hd hc hk HG7 HG6 HP6
        generalize w6.heap.size = Tq at *
        obtain rfl | rfl | rfl : i = 0 ∨ i = 1 ∨ i = 2 := by omega
        · go_wp2_with fail
          go_meet
          exact ⟨_, rfl, ⟨by omega, by omega⟩, HG8.out⟩
        · go_wp2_with fail
          go_meet
          exact ⟨_, rfl, ⟨by omega, by omega⟩, HG8.out⟩
        · go_wp2_with fail
          go_meet
          exact ⟨_, rfl, ⟨by omega, by omega⟩, HG8.out⟩
    case rest =>
      obtain ⟨z, rfl, hz, hG⟩ := hcut
      obtain ⟨w7, hw7⟩ : ∃ w7, w7 = wc := ⟨_, rfl⟩
      rw [← hw7] at hG
      rw [← hw7]
      clear hw7 HG6
      have HG7 := hide hG
      clear hG
      have HFIN : Hid (∀ v m F wr, m ≤ 65001 → DG p a len cap w1 v m F wr → DrG w (.returned (.tuple #[v, .int .i64 z])) wr) := fun v m F wr hm hD => by
        have hq := HPE.out
        exact ⟨v, m, F, z, rfl, hm, hz, own_monoR hD.own (by omega), HB1.out.trans (hD.kept.below (by omega) (by omega))⟩
      have hd := once_any p a len cap _ HG7.out.cur 20 (by omega) (by omega)
      go_wp2_with fail
      refine hd.mono ?_
      rintro e w8 ⟨q, rfl, hc, hk⟩
      have HG8 := hide (HG7.out.step hp1 hc hk)
      clear hd hc hk HG7
      cases q
      · have HF := hide (HFIN.out _ m' F' w8 hm' HG8.out)
        go_wp2_with fail
        exact bodyPost_ret (v := .tuple #[.slice al' m' cl', .int .i64 z]) (by simp [results, Try.results10, go_sem]) rfl HF.out
      · by_cases h0 : 0 < m'
        · have hmi : (0 : Int) < (m' : Int) := by omega
          have HG9 := hide (HG8.out.alloc (.cells #[.int .i64 0, .int .i64 1000, .int .i64 1001] 2))
          have HP8 : Hid (p < w8.heap.size) := Nat.lt_of_lt_of_le hp1 HG8.out.kept.size
          have hd := below_any p a len cap _ HG9.out.cur 3 (by omega) (by omega)
          go_wp2_with fail
          refine hd.mono ?_
          rintro e w10 ⟨i, rfl, hi0, hi1, hc, hk⟩
          have HG10 := hide (HG9.out.step hp1 hc hk)
          obtain ⟨x0, x1, x2⟩ := tab3 HP8.out hk
          clear hd hc hk HG9 HG8 HP8
          generalize w8.heap.size = Tq at *
          obtain ⟨b, c, hv, hB, hcell⟩ := own_partsF HG10.out.own h0
          cases hv
          obtain ⟨yc, yf⟩ := hcell 2 (by omega)
          have HS : Hid (∀ u : Int, DrG w (.returned (.tuple #[.slice (some ⟨b, 0, none⟩) m' cl', .int .i64 z])) (w10.setCell ⟨b, 2, none⟩ (.int .i64 u))) := fun u => by
            have hb : Below w1.heap.size w10 (w10.setCell ⟨b, 2, none⟩ (.int .i64 u)) := (Below.refl _ _).setCell hB _
            exact HFIN.out _ m' _ _ hm' (HG10.out.grown hp1 HAB1.out (own_setF HG10.out.own 2 u) hb)
          clear hcell HG10
          obtain rfl | rfl | rfl : i = 0 ∨ i = 1 ∨ i = 2 := by omega
          · go_wp2_with fail
            exact bodyPost_ret (v := .tuple #[.slice (some ⟨b, 0, none⟩) m' cl', .int .i64 z]) (by simp [results, Try.results10, go_sem]) rfl (HS.out _)
          · go_wp2_with fail
            exact bodyPost_ret (v := .tuple #[.slice (some ⟨b, 0, none⟩) m' cl', .int .i64 z]) (by simp [results, Try.results10, go_sem]) rfl (HS.out _)
          · go_wp2_with fail
            exact bodyPost_ret (v := .tuple #[.slice (some ⟨b, 0, none⟩) m' cl', .int .i64 z]) (by simp [results, Try.results10, go_sem]) rfl (HS.out _)
        · obtain rfl : m' = 0 := by omega
          have HF := hide (HFIN.out _ 0 F' w8 hm' HG8.out)
          go_wp2_with fail
          exact bodyPost_ret (v := .tuple #[.slice al' 0 cl', .int .i64 z]) (by simp [results, Try.results10, go_sem]) rfl HF.out

end Go.Proofs.Ytfpeobkncileiaa
