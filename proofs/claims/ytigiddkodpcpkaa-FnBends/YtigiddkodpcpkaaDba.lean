/- The draw of a bend and a place. -/
import Derived.Test.YtigiddkodpcpkaaDbd
namespace Go.Proofs.Ytigiddkodpcpkaa
open Go.RowKit

set_option maxRecDepth 100000 in
set_option maxHeartbeats 1000000 in
theorem oddG (p : Nat) (a : Option Addr) (len cap : Nat) (w : World) (h : Cur p a len cap w) (hp : p < w.heap.size) :
    Calls Try.prog 55 #[.pointer (some ⟨p, 0, none⟩)] w (DrawnI p a len cap w) := by
  have HB : Hid (Below w.heap.size w (w.alloc (.cells #[.int .i64 (-1), .int .i64 0, .int .i64 1, .int .i64 2147483648, .int .i64 (-2147483648), .int .i64 1099511627776, .int .i64 4611686018427387904, .int .i64 (-4611686018427387904), .int .i64 9223372036854775807, .int .i64 (-9223372036854775808)] 2))) := bnew _ _
  have hd := below_any p a len cap _ (h.below HB.out) 10 (by omega) (by omega)
  have HLit := hide (fun m hm => lit_cell w [-1, 0, 1, 2147483648, -2147483648, 1099511627776, 4611686018427387904, -4611686018427387904, 9223372036854775807, -9223372036854775808] 2 m hm)
  clear h
  go_enter Try.func55, Try.ntmps55
  go_wp2_with fail
  refine hd.mono ?_
  rintro e w3 ⟨y, rfl, y0, y1, hc, hk⟩
  obtain ⟨m, rfl⟩ : ∃ m : Nat, y = (m : Int) := ⟨y.toNat, by omega⟩
  have hm6 : m < 10 := by omega
  obtain ⟨z, hz⟩ := HLit.out m hm6
  have hz3 := hk.cell (a := ⟨w.heap.size, m, none⟩) (by show w.heap.size ≠ p; omega) hz
  have HK3 := hide ((Kept.of_below HB.out).trans hk)
  have HC := hide hc
  clear hd hk hz HLit HB hc y0 y1
  have hm6' : (m : Int) < 10 := by omega
  go_wp2_with fail
  go_ret
  exact ⟨_, rfl, HC.out, HK3.out⟩

set_option maxRecDepth 100000 in
set_option maxHeartbeats 2000000 in
theorem drawBendAt_any (a : Option Addr) (len cap : Nat) (w : World) (h : Bytes a len w) :
    Calls Try.prog 14 #[.slice a len cap] w fun e w' => ∃ b n c f x, e = .returned (.tuple #[.slice (some ⟨b, 0, none⟩) n c, .int .i64 x]) ∧ n ≤ 70 ∧ n ≤ c ∧ Row b n f w' ∧ Below w.heap.size w w' := by
  have hn := new_any a len cap w h
  have hab : len = 0 ∨ ∀ b off, a = some ⟨b, off, none⟩ → b < w.heap.size + 1 := by
    by_cases h0 : len = 0
    · exact .inl h0
    · refine .inr fun b off e => ?_
      rcases h.2 with h1 | ⟨b', off', ha, hb⟩
      · exact absurd h1 h0
      · obtain ⟨z, _, _, hz⟩ := hb 0 (by omega)
        rw [e] at ha
        cases ha
        exact Nat.lt_succ_of_lt (World.block_lt_of_cell? w _ hz)
  have HCC : Hid (∀ x, Cur w.heap.size a len cap (w.alloc (.cells #[.slice a len cap, .int .i64 0, .int .i64 x] 97))) := fun x => cur_new a len cap w h x
  clear h
  go_enter Try.func14, Try.ntmps14
  go_wp2_with fail
  refine hn.mono ?_
  rintro e w1 ⟨x, rfl, hw1⟩
  have hc1 := HCC.out x
  rw [← hw1] at hc1
  have hs1 : w1.heap.size = w.heap.size + 1 := by rw [hw1]; simp
  have HB1 : Hid (Below w.heap.size w w1) := by rw [hw1]; exact bnew _ _
  rw [← hs1] at hab
  have hlt1 : w.heap.size < w1.heap.size := by omega
  have hd := drawBend_any w.heap.size a len cap w1 hc1 hlt1 hab
  clear hn hw1 HCC hab hs1 hc1
  go_wp2_with fail
  refine hd.mono ?_
  rintro e w2 ⟨v, rfl, b, n, c, f, rfl, -, hn70, hnc, hB, hr, hc, hk, hs⟩
  have HR2 := hide hr
  have HK2 := hide hk
  clear hd hr hk
  have hd := fun m => belowG w.heap.size a len cap _ hc m
  clear hc
  go_wp2_with fail
  refine (hd _).mono ?_
  rintro e w3 ⟨x3, rfl, hc, hk⟩
  have HR3 := hide (HR2.out.keptP hk (by omega))
  have HK3 := hide (HK2.out.trans hk)
  have hs3 := hk.size
  clear hd hk HR2 HK2
  have hd := once_any w.heap.size a len cap _ hc 12 (by omega) (by omega)
  clear hc
  go_wp2_with fail
  refine hd.mono ?_
  rintro e w4 ⟨q, rfl, hc, hk⟩
  have HR4 := hide (HR3.out.keptP hk (by omega))
  have HK4 := hide (HK3.out.trans hk)
  have hs4 := hk.size
  have HC4 := hide hc
  clear hd hk hc HR3 HK3
  by_cases hT : q = true ∧ 0 < n
  · obtain ⟨rfl, hn0⟩ := hT
    have hn0' : (0 : Int) < (n : Int) := by omega
    have hd := below_any w.heap.size a len cap _ HC4.out 2 (by omega) (by omega)
    go_wp2_with fail
    refine hd.mono ?_
    rintro e w5 ⟨y5, rfl, -, -, hc, hk⟩
    have HR5 := hide (HR4.out.keptP hk (by omega))
    have HK5 := hide (HK4.out.trans hk)
    have hs5 := hk.size
    clear hd hk HR4 HK4 HC4
    have hd := once_any w.heap.size a len cap _ hc 30 (by omega) (by omega)
    clear hc
    go_wp2_with fail
    refine hd.mono ?_
    rintro e w6 ⟨r, rfl, hc, hk⟩
    have HR6 := hide (HR5.out.keptP hk (by omega))
    have HK6 := hide (HK5.out.trans hk)
    have hs6 := hk.size
    clear hd hk HR5 HK5
    cases r
    · have HBe : Hid (Below w.heap.size w w6) := HB1.out.trans (HK6.out.below (Nat.le_refl _) (by omega))
      clear hc
      go_wp2_with fail
      go_ret2
      exact ⟨b, n, c, f, _, rfl, hn70, hnc, HR6.out, HBe.out⟩
    · have hd := oddG w.heap.size a len cap _ hc (by omega)
      clear hc
      go_wp2_with fail
      refine hd.mono ?_
      rintro e w7 ⟨y7, rfl, -, hk⟩
      have HR7 := hide (HR6.out.keptP hk (by omega))
      have HBe : Hid (Below w.heap.size w w7) := HB1.out.trans ((HK6.out.trans hk).below (Nat.le_refl _) (by omega))
      clear hd hk HR6 HK6
      go_wp2_with fail
      go_ret2
      exact ⟨b, n, c, f, _, rfl, hn70, hnc, HR7.out, HBe.out⟩
  · have HT := hide hT
    have hd := once_any w.heap.size a len cap _ HC4.out 30 (by omega) (by omega)
    have hqn : q = false ∨ (q = true ∧ n = 0) := by
      cases q
      · exact .inl rfl
      · exact .inr ⟨rfl, by have : ¬ 0 < n := fun e => hT ⟨rfl, e⟩; omega⟩
    clear hT HT
    rcases hqn with rfl | ⟨rfl, rfl⟩
    · go_wp2_with fail
      refine hd.mono ?_
      rintro e w6 ⟨r, rfl, hc, hk⟩
      have HR6 := hide (HR4.out.keptP hk (by omega))
      have HK6 := hide (HK4.out.trans hk)
      have hs6 := hk.size
      clear hd hk HR4 HK4
      cases r
      · have HBe : Hid (Below w.heap.size w w6) := HB1.out.trans (HK6.out.below (Nat.le_refl _) (by omega))
        clear hc
        go_wp2_with fail
        go_ret2
        exact ⟨b, n, c, f, _, rfl, hn70, hnc, HR6.out, HBe.out⟩
      · have hd := oddG w.heap.size a len cap _ hc (by omega)
        clear hc
        go_wp2_with fail
        refine hd.mono ?_
        rintro e w7 ⟨y7, rfl, -, hk⟩
        have HR7 := hide (HR6.out.keptP hk (by omega))
        have HBe : Hid (Below w.heap.size w w7) := HB1.out.trans ((HK6.out.trans hk).below (Nat.le_refl _) (by omega))
        clear hd hk HR6 HK6
        go_wp2_with fail
        go_ret2
        exact ⟨b, n, c, f, _, rfl, hn70, hnc, HR7.out, HBe.out⟩
    · have hn0' : ¬ (0 : Int) < ((0 : Nat) : Int) := by omega
      go_wp2_with fail
      refine hd.mono ?_
      rintro e w6 ⟨r, rfl, hc, hk⟩
      have HR6 := hide (HR4.out.keptP hk (by omega))
      have HK6 := hide (HK4.out.trans hk)
      have hs6 := hk.size
      clear hd hk HR4 HK4
      cases r
      · have HBe : Hid (Below w.heap.size w w6) := HB1.out.trans (HK6.out.below (Nat.le_refl _) (by omega))
        clear hc
        go_wp2_with fail
        go_ret2
        exact ⟨b, 0, c, f, _, rfl, hn70, hnc, HR6.out, HBe.out⟩
      · have hd := oddG w.heap.size a len cap _ hc (by omega)
        clear hc
        go_wp2_with fail
        refine hd.mono ?_
        rintro e w7 ⟨y7, rfl, -, hk⟩
        have HR7 := hide (HR6.out.keptP hk (by omega))
        have HBe : Hid (Below w.heap.size w w7) := HB1.out.trans ((HK6.out.trans hk).below (Nat.le_refl _) (by omega))
        clear hd hk HR6 HK6
        go_wp2_with fail
        go_ret2
        exact ⟨b, 0, c, f, _, rfl, hn70, hnc, HR7.out, HBe.out⟩

end Go.Proofs.Ytigiddkodpcpkaa
