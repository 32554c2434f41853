/- Draws of acts and of flows. -/
import Derived.Test.YtfhfddmiiopgdaaDac
import Derived.Test.YtfhfddmiiopgdaaFps
namespace Go.Proofs.Ytfhfddmiiopgdaa
open Go.RowKit

set_option maxRecDepth 100000 in
set_option maxHeartbeats 1000000 in
theorem belowW (p : Nat) (a : Option Addr) (len cap : Nat) (w : World) (h : Cur p a len cap w) (n : Int) (h1 : 1 ≤ n) (h2 : n ≤ 1000000) :
    Calls Try.prog 15 #[.pointer (some ⟨p, 0, none⟩), .int .i64 n] w (Drawn p a len cap w 0 (n - 1)) := by
  by_cases h3 : n ≤ 256
  · exact below_any p a len cap w h n h1 h3
  have hn0 : (n == 0) = false := by simp; omega
  have hn1 : ¬ n = 0 := by omega
  have hd := byte_any p a len cap w h
  clear h
  go_enter Try.func15, Try.ntmps15
  go_wp2_with fail
  refine hd.mono ?_
  rintro e w1 ⟨x1, rfl, l1, u1, hc, hk⟩
  have HK1 := hide hk
  clear hd hk
  have hd := byte_any p a len cap w1 hc
  clear hc
  go_wp2_with fail
  refine hd.mono ?_
  rintro e w2 ⟨x2, rfl, l2, u2, hc, hk⟩
  have HK2 := hide (HK1.out.trans hk)
  clear hd hk HK1
  have hd := byte_any p a len cap w2 hc
  clear hc
  go_wp2_with fail
  refine hd.mono ?_
  rintro e w3 ⟨x3, rfl, l3, u3, hc, hk⟩
  have HK3 := hide (HK2.out.trans hk)
  clear hd hk HK2
  have hd := byte_any p a len cap w3 hc
  clear hc
  go_wp2_with fail
  refine hd.mono ?_
  rintro e w4 ⟨x4, rfl, l4, u4, hc, hk⟩
  have HK4 := hide (HK3.out.trans hk)
  have HC := hide hc
  clear hd hk HK3 hc
  have m1 : Hid (0 ≤ (x1 * 16777216 + x2 * 65536 + x3 * 256 + x4) % n ∧ (x1 * 16777216 + x2 * 65536 + x3 * 256 + x4) % n ≤ n - 1) := by
    have p2 := Int.emod_lt_of_pos (x1 * 16777216 + x2 * 65536 + x3 * 256 + x4) (show 0 < n by omega)
    exact ⟨Int.emod_nonneg _ hn1, by omega⟩
  go_wp2_with fail
  go_ret
  exact ⟨_, rfl, m1.out.1, m1.out.2, HC.out, HK4.out⟩

set_option maxRecDepth 100000 in
theorem infoA : ∃ i, Try.prog.info? 30 = some i ∧ i.zero = some (vAct 0 0 0) ∧ i.size = 3 ∧ i.bytes = 24 := ⟨_, rfl, rfl, rfl, rfl⟩
theorem growAc (w : World) {ops : Array Oper} {rest : List Oper} {o : Oper} {a : Act} {Q : Exit → Act → World → Prop} (hgd : o.guard = none) (s x : Operand)
    (ho : o.op = .call { callee := .builtin .append, args := #[s, x], argTypes := #[24, 24] }) (B : Nat) (v : Value) (n : Nat) (L : List Int) (hs : a.eval s = v) (w0 : World) (hown : w.ownsRow B 30 3 v n (ints L))
    (hb : Below B w0 w) (hB : B ≤ w.heap.size) (x0 x1 x2 : Int) (hx : a.eval x = .slice (some ⟨w.heap.size, 0, none⟩) 1 1) (hn : n ≤ 1048576)
    (h : ∀ v' w', w'.ownsRow B 30 3 v' (n + 1) (ints (L ++ [x0, x1, x2])) → Below B w0 w' → w.heap.size < w'.heap.size → wpList Try.prog ops Q rest (a.put o.dst v') w') :
    wpList Try.prog ops Q (o :: rest) a (w.alloc (.cells #[.int .i64 x0, .int .i64 x1, .int .i64 x2] 30)) := by
  obtain ⟨ti, hi1, hi2, hi3, hi4⟩ := infoA
  exact grow w hgd s x 24 ho B 30 ti (vAct 0 0 0) 3 24 Try.underlying24 hi1 hi2 hi3 hi4 rfl (by omega) v n L hs w0 hown hb hB [x0, x1, x2] 1 1 hx rfl (by unfold maxLen; omega) (by omega) h

/-- acts that are drawn -/
abbrev GA := GL 30 3

set_option maxRecDepth 100000 in
set_option maxHeartbeats 2000000 in
theorem drawActs_any (p : Nat) (a : Option Addr) (len cap : Nat) (w : World) (h : Cur p a len cap w) (hp : p < w.heap.size) (hab : len = 0 ∨ ∀ b off, a = some ⟨b, off, none⟩ → b < w.heap.size) :
    Calls Try.prog 13 #[.pointer (some ⟨p, 0, none⟩)] w fun e w' => ∃ v m L, e = .returned v ∧ m ≤ 23 ∧ GA p a len cap w v m L w' := by
  have HAB := hide hab
  have hb0 := bnew w (.cells #[] 30)
  have HP0 : Hid (GA p a len cap w (.slice (some ⟨w.heap.size, 0, none⟩) 0 0) 0 [] (w.alloc (.cells #[] 30))) := ⟨World.ownsRow_made w #[] 0 (Nat.le_refl _) (Nat.zero_le _) rfl, h.below hb0, Kept.of_below hb0⟩
  clear h hab hb0
  go_enter Try.func13, Try.ntmps13
  go_upto_region 2 with fail
  generalize hw1 : w.alloc (.cells #[] 30) = w1 at *
  clear hw1
  have c30 := below_any p a len cap _ HP0.out.cur 24 (by omega) (by omega)
  go_wp2_with fail
  refine c30.mono ?_
  rintro e w2 ⟨y, rfl, y0, y1, hc, hk⟩
  obtain ⟨Y, rfl⟩ : ∃ Y : Nat, y = Y := ⟨y.toNat, by omega⟩
  have HP2 := hide (HP0.out.next hp hc hk)
  clear c30 hc hk HP0
  go_wp2_with fail
  go_loopw [3, 4] (fun s i wr => ∃ (v : Value) (m j : Nat) (L : List Int), v = s ∧ m + j ≤ 23 ∧ i = .int .i64 j ∧ GA p a len cap w v m L wr) (fun _ i _ => (intOf i).toNat)
  case atStart => exact ⟨_, 0, Y, [], rfl, by omega, rfl, HP2.out⟩
  case round =>
    obtain ⟨v, m, j, L, rfl, hmj, rfl, hP⟩ := hrel
    have HP := hide hP
    clear hP HP2
    by_cases hj : 0 < j
    · have c1 := drawAct_any p a len cap _ HP.out.cur (Nat.lt_of_lt_of_le hp HP.out.kept.size) (HAB.out.imp id fun h b off e => Nat.lt_of_lt_of_le (h b off e) HP.out.kept.size)
      go_wp2_with fail
      refine c1.mono ?_
      rintro e w3 ⟨x0, x1, x2, rfl, hc, hk⟩
      have HP3 := hide (HP.out.next hp hc hk)
      have HS3 := hide HP3.out.kept.size
      clear c1 hc hk HP
      go_wp2_with (refine growAc _ rfl _ _ rfl w.heap.size v m L rfl w3 HP3.out.own (Below.refl _ _) HS3.out x0 x1 x2 rfl (by omega) ?_)
      intro v' w' ho' hb' hs'
      have HP8 : Hid (GA p a len cap w v' (m + 1) (L ++ [x0, x1, x2]) w') := ⟨ho', HP3.out.cur.belowB hb' hp HAB.out, HP3.out.kept.belowB hb' (Nat.le_refl _)⟩
      clear ho' hb' hs' HP3 HS3
      go_wp2_with fail
      exact ⟨⟨v', m + 1, j - 1, _, rfl, by omega, by congr 1; omega, HP8.out⟩, by simp [intOf]; omega⟩
    · obtain rfl : j = 0 := by omega
      go_wp2_with fail
      go_ret
      exact ⟨_, m, L, rfl, by omega, HP.out⟩

set_option maxRecDepth 100000 in
set_option maxHeartbeats 2000000 in
theorem drawFlowPlay_any (a : Option Addr) (len cap : Nat) (w : World) (h : Bytes a len w) :
    Calls Try.prog 5 #[.slice a len cap] w fun e w' => ∃ v m L, e = .returned v ∧ m ≤ 2001 ∧ w'.ownsRow w.heap.size 30 3 v m (ints L) ∧ Below w.heap.size w w' := by
  have cN := new_any a len cap w h
  have HH := hide h
  clear h
  go_enter Try.func5, Try.ntmps5
  go_wp2_with fail
  refine cN.mono ?_
  rintro e w0 ⟨x, rfl, hw0⟩
  have hp : w.heap.size < w0.heap.size := by rw [hw0]; simp
  have HB0 : Hid (Below w.heap.size w w0) := by rw [hw0]; exact bnew _ _
  have HAB : Hid (len = 0 ∨ ∀ b off, a = some ⟨b, off, none⟩ → b < w0.heap.size) := bytes_lt' HH.out (Nat.le_of_lt hp)
  have hc0 : Cur w.heap.size a len cap w0 := by rw [hw0]; exact cur_new a len cap w HH.out x
  have HFIN : Hid (∀ v m L w', GA w.heap.size a len cap w0 v m L w' → w'.ownsRow w.heap.size 30 3 v m (ints L) ∧ Below w.heap.size w w') := fun v m L w' hG => ⟨owns_mono hG.own (Nat.le_of_lt hp), HB0.out.trans (hG.kept.below (Nat.le_refl _) (Nat.le_of_lt hp))⟩
  clear cN hw0 HH HB0
  have cA := drawActs_any _ a len cap w0 hc0 hp HAB.out
  clear hc0
  go_wp2_with fail
  refine cA.mono ?_
  rintro e w1 ⟨v, m, L, rfl, hm, hG⟩
  have HG := hide hG
  have cO := once_any _ a len cap w1 hG.cur 60 (by omega) (by omega)
  clear cA hG
  go_wp2_with fail
  refine cO.mono ?_
  rintro e w2 ⟨q, rfl, hc, hk⟩
  have HG2 := hide (HG.out.next hp hc hk)
  clear cO hc hk HG
  cases q
  · go_wp2_with fail
    go_ret
    exact ⟨_, m, L, rfl, by omega, HFIN.out _ _ _ _ HG2.out⟩
  · have hb3 := bnew w2 (.cells #[] 30)
    have HG3 : Hid (GA w.heap.size a len cap w0 (.slice (some ⟨w2.heap.size, 0, none⟩) 0 0) 0 [] (w2.alloc (.cells #[] 30))) := ⟨World.ownsRow_made w2 #[] 0 HG2.out.kept.size (Nat.zero_le _) rfl, HG2.out.cur.below hb3, HG2.out.kept.trans (Kept.of_below hb3)⟩
    clear HG2 hb3 hm
    go_upto_region 5 with fail
    generalize w2.alloc (.cells #[] 30) = w3 at *
    generalize Value.slice (some ⟨w2.heap.size, 0, none⟩) 0 0 = v0 at *
    go_wp2_with fail
    go_loopw [4, 5] (fun s i wr => ∃ (v : Value) (k : Nat) (L : List Int), v = s ∧ k ≤ 2001 ∧ i = .int .i64 k ∧ GA w.heap.size a len cap w0 v k L wr) (fun _ i _ => 2001 - (intOf i).toNat)
    case atStart => exact ⟨_, 0, [], rfl, by omega, rfl, HG3.out⟩
    case round =>
      obtain ⟨v, k, L, rfl, hk2, rfl, hG⟩ := hrel
      have HG := hide hG
      clear hG HG3
      have c2 := below_any _ a len cap _ HG.out.cur 2 (by omega) (by omega)
      go_wp2_with fail
      refine c2.mono ?_
      rintro e w4 ⟨y, rfl, y0, y1, hc, hk⟩
      have HG4 := hide (HG.out.next hp hc hk)
      have HS4 := hide HG4.out.kept.size
      clear c2 hc hk HG
      by_cases hlt : (k : Int) < 2000 + y
      · go_wp2_with (refine growAc _ rfl _ _ rfl w0.heap.size v k L rfl w4 HG4.out.own (Below.refl _ _) HS4.out 1 ((k : Int).tmod 600) 5 rfl (by omega) ?_)
        intro v' w' ho' hb' hs'
        have HG8 : Hid (GA w.heap.size a len cap w0 v' (k + 1) (L ++ [1, (k : Int).tmod 600, 5]) w') := ⟨ho', HG4.out.cur.belowB hb' hp HAB.out, HG4.out.kept.belowB hb' (Nat.le_refl _)⟩
        clear ho' hb' hs' HG4 HS4
        go_wp2_with fail
        exact ⟨⟨v', k + 1, _, rfl, by omega, rfl, HG8.out⟩, by simp [intOf]; omega⟩
      · go_wp2_with fail
        go_ret
        exact ⟨_, k, L, rfl, by omega, HFIN.out _ _ _ _ HG4.out⟩

end Go.Proofs.Ytfhfddmiiopgdaa
