/- Right lists of elements: the specification, one step. -/
import Derived.Test.YteadhhhhnihoaaaExz
namespace Go.Proofs.Yteadhhhhnihoaaa
open Go.RowKit

set_option maxRecDepth 100000 in
set_option maxHeartbeats 20000000 in
theorem specExb (a : Option Addr) (m cap : Nat) (ad : Nat → Option Addr) (cp : Nat → Nat) (E : Nat → El) (hm : m ≤ 2000) (hl : ∀ i, i < m → (E i).ln ≤ 1048576) (N : Nat) (ih : AskS a m cap ad cp E N) : ∀ (i en : Nat) (d : Int) (w : World), en - i ≤ N + 1 → i ≤ en → en ≤ m → 1 ≤ d → d ≤ 9 → PxE a m ad cp E w →
    Calls Try.prog 34 #[.slice a m cap, .int .i64 i, .int .i64 en, .int .i64 d, .bool false] w fun e w' => e = .returned (.bool (lev E i en d false (-1))) ∧ Below w.heap.size w w' := by
  intro i en d w hN hi hto hd1 hd9 h
  have HP := hide h
  have HL := hide hl
  have IH := hide ih
  clear h hl ih
  by_cases hdeep : i < en ∧ ¬ d ≤ 8
  · have hlev := lev_deep (E := E) (it := false) (last := -1) hdeep.1 hdeep.2
    rw [hlev]
    have c1 : (i : Int) < (en : Int) := by omega
    have c2 : (8 : Int) < d := by omega
    go_enter Try.func34, Try.ntmps34
    go_wp2_with fail
    go_ret
    exact ⟨rfl, Below.refl _ _⟩
  have hd8 : i < en → d ≤ 8 := fun x => Classical.byContradiction fun y => hdeep ⟨x, y⟩
  clear hdeep
  have HD8 := hide hd8
  clear hd8
  have enter : ∀ (cc : Bool), True := fun _ => trivial
  clear enter
  by_cases hit : i < en
  · have c1 : (i : Int) < (en : Int) := by omega
    have c2 : ¬ (8 : Int) < d := by have := HD8.out hit; omega
    go_enter Try.func34, Try.ntmps34
    go_wp2_with fail
    have hd8 := HD8.out hit
    clear c1 HD8
    go_loopw [11, 12, 13] (fun la j _ wr => ∃ (j' : Nat) (last : Int), i ≤ j' ∧ j' ≤ en ∧ j = .int .i64 j' ∧ la = .int .i64 last ∧ lev E i en d false (-1) = lev E j' en d false last ∧ Below w.heap.size w wr) (fun _ j _ _ => en - (intOf j).toNat)
    case atStart => exact ⟨i, -1, by omega, by omega, rfl, rfl, rfl, Below.refl _ _⟩
    case round =>
      obtain ⟨j, last, hj1, hj2, rfl, rfl, hlev, hb⟩ := hrel
      have HLev := hide hlev
      clear hlev
      by_cases hlt : j < en
      · have c1 : (j : Int) < (en : Int) := by omega
        obtain ⟨b, off, rfl, z0, z1, z2, z3, z4, z5⟩ := (HP.out.below hb).at (show j < m by omega)
        have hpx := ((HP.out.below hb).2 j (show j < m by omega))
        have hln := HL.out j (by omega)
        obtain ⟨g, n, k, t, l, f, s, hE⟩ : ∃ g n k t l f s, E j = ⟨g, n, k, t, l, f, s⟩ := ⟨_, _, _, _, _, _, _, rfl⟩
        rw [hE] at z0 z1 z2 z3 z4 z5 hpx hln
        simp only at z0 z1 z2 z3 z4 z5 hpx hln
        have HNo := hide (fun hn => HLev.out.trans (lev_bad (d := d) hlt (hdB_no (en := en) (it := false) (last := last) hE hn)))
        have HYes := hide (fun hn => HLev.out.trans (lev_good (d := d) hlt hd8 ((hdB_iff (en := en) (it := false) (last := last) hE).2 hn)))
        have hnx : nxt E j = j + 1 + s.toNat := by unfold nxt; rw [hE]
        have hls : lstB E j false last = if false = true then last else g * 65536 + n := by unfold lstB; rw [hE]
        rw [hnx, hls, hE] at HYes
        simp only at HYes
        have HBw := hide hb
        have C0 := C6.new ⟨g, n, k, t, l, f, s⟩ (ad j) (cp j) 53 wr
        simp only at C0
        have HC0 := hide C0
        have HBa : Hid (Below wr.heap.size wr (wr.alloc (.cells #[.int .i64 g, .int .i64 n, .int .i64 k, .string t, .slice (ad j) l (cp j), .int .i64 s] 53))) := bnew _ _
        have HPa := hide (hpx.below HBa.out)
        have cV := fun w' h' => l12Value_any g n k t (ad j) l (cp j) f s hln w' h'
        clear hnx hls hb hpx C0 hE hln HLev
        generalize ad j = adj at *
        generalize cp j = cpj at *
        go_wp2_with fail
        refine (cV _ HPa.out).mono ?_
        rintro e w1 ⟨rfl, hb1⟩
        have HBb := hide (HBa.out.trans (hb1.mono (by simp)))
        obtain ⟨i0, i1, i2, i3, i4, i5⟩ := HC0.out.below hb1
        clear cV hb1 HPa HC0 HBa z0 z1 z2 z3 z4 z5 i3 i4
        rw [Nat.zero_add] at i1 i2 i5
        have HBx := hide (bnext HBw.out (Nat.le_refl _) HBb.out)
        obtain ⟨eb, heb⟩ : ∃ eb, eb = wr.heap.size := ⟨_, rfl⟩
        rw [← heb] at i0 i1 i2 i5
        have HEB := hide heb
        cases hv : valB k t l f with
        | false =>
          have HR := hide (HNo.out (fun x => by rw [hv] at x; exact Bool.noConfusion x.1))
          clear HNo HYes
          rw [heb] at i0 i1 i2 i5
          go_wp2_with fail
          go_ret
          exact ⟨by rw [HR.out]; rfl, HBx.out⟩
        | true =>
          rw [heb] at i0 i1 i2 i5
          clear heb HEB
          by_cases h6 : decide (k = 6) = false
          · have q6 : (k == 6) = false := h6
            by_cases hs0 : s < 0
            · have HR := hide (HNo.out (fun x => by have := x.2.2.1; omega))
              clear HNo HYes IH HP HL
              go_wp2_with fail
              go_ret
              exact ⟨by rw [HR.out]; rfl, HBx.out⟩
            · have w9 : IntKind.i64.wrap ((en : Int) - j) = (en : Int) - j := by rw [IntKind.wrap_i64]; (try clear w8); (try clear w9); (try clear w4); (try clear w5); (try clear w1'); (try clear w2'); (try clear w3'); omega
              have w8 : IntKind.i64.wrap ((en : Int) - j - 1) = (en : Int) - j - 1 := by rw [IntKind.wrap_i64]; (try clear w8); (try clear w9); (try clear w4); (try clear w5); (try clear w1'); (try clear w2'); (try clear w3'); omega
              by_cases hs1 : (en : Int) - j - 1 < s
              · have HR := hide (HNo.out (fun x => by have := x.2.2.1; (try clear w8); (try clear w9); (try clear w4); (try clear w5); (try clear w1'); (try clear w2'); (try clear w3'); omega))
                clear HNo HYes IH HP HL
                go_wp2_with fail
                go_ret
                exact ⟨by rw [HR.out]; rfl, HBx.out⟩
              · obtain ⟨S, rfl⟩ : ∃ S : Nat, s = (S : Int) := ⟨s.toNat, by (try clear w8); (try clear w9); (try clear w4); (try clear w5); (try clear w1'); (try clear w2'); (try clear w3'); omega⟩
                rw [Int.toNat_natCast] at HYes
                focus
                  have k6 : k ≠ 6 := of_decide_eq_false h6
                  have k6' : (k != 6) = true := by simp [k6]
                  have k6b : (k == 6) = false := beq_false_of_ne k6
                  have cg := fun w' => l1In_any g 0 65534 w'
                  have cn := fun w' => l1In_any n 0 65535 w'
                  have htg : tagB g n = (inB g 0 65534 && inB n 0 65535) := rfl
                  cases hg : inB g 0 65534 with
                  | false =>
                    rw [hg] at cg
                    have HR := hide (HNo.out (fun x => by rcases x.2.2.2.1 with y | y; exact absurd y.1 (by simp); rw [htg, hg] at y; exact Bool.noConfusion y.2.1))
                    clear HNo HYes IH HP HL
                    go_wp2_with fail
                    refine (cg _).mono ?_
                    rintro _ _ ⟨rfl, rfl⟩
                    go_wp2_with fail
                    go_ret
                    exact ⟨by rw [HR.out]; rfl, HBx.out⟩
                  | true =>
                    rw [hg] at cg
                    cases hn : inB n 0 65535 with
                    | false =>
                      rw [hn] at cn
                      have HR := hide (HNo.out (fun x => by rcases x.2.2.2.1 with y | y; exact absurd y.1 (by simp); rw [htg, hg, hn] at y; exact Bool.noConfusion y.2.1))
                      clear HNo HYes IH HP HL
                      go_wp2_with fail
                      refine (cg _).mono ?_
                      rintro _ _ ⟨rfl, rfl⟩
                      go_wp2_with fail
                      refine (cn _).mono ?_
                      rintro _ _ ⟨rfl, rfl⟩
                      go_wp2_with fail
                      go_ret
                      exact ⟨by rw [HR.out]; rfl, HBx.out⟩
                    | true =>
                      rw [hn] at cn
                      have ht : tagB g n = true := by rw [htg, hg, hn]; rfl
                      have hgb := (tagB_iff g n).1 ht
                      have w4 : IntKind.i64.wrap (g * 65536) = g * 65536 := by rw [IntKind.wrap_i64]; (try clear w8); (try clear w9); (try clear w4); (try clear w5); (try clear w1'); (try clear w2'); (try clear w3'); omega
                      have w5 : IntKind.i64.wrap (g * 65536 + n) = g * 65536 + n := by rw [IntKind.wrap_i64]; (try clear w8); (try clear w9); (try clear w4); (try clear w5); (try clear w1'); (try clear w2'); (try clear w3'); omega
                      have HT := hide ht
                      have HGB := hide hgb
                      clear htg ht hgb hg hn
                      go_wp2_with fail
                      refine (cg _).mono ?_
                      rintro _ w1 ⟨rfl, rfl⟩
                      go_wp2_with fail
                      refine (cn _).mono ?_
                      rintro _ w1 ⟨rfl, rfl⟩
                      clear cg cn
                      by_cases hla : g * 65536 + n ≤ last
                      · have HR := hide (HNo.out (fun x => by rcases x.2.2.2.1 with y | y; exact absurd y.1 (by simp); have := y.2.2; (try clear w8); (try clear w9); (try clear w4); (try clear w5); (try clear w1'); (try clear w2'); (try clear w3'); omega))
                        clear HNo HYes IH HP HL
                        go_wp2_with fail
                        go_ret
                        exact ⟨by rw [HR.out]; rfl, HBx.out⟩
                      · by_cases k5 : k = 5
                        · have k5' : (k != 5) = false := by simp [k5]
                          have HK5 := hide k5
                          clear k5
                          have w1' : IntKind.i64.wrap ((j : Int) + 1) = (j : Int) + 1 := by rw [IntKind.wrap_i64]; (try clear w8); (try clear w9); (try clear w4); (try clear w5); (try clear w1'); (try clear w2'); (try clear w3'); omega
                          have w2' : IntKind.i64.wrap ((j : Int) + 1 + (S : Int)) = (j : Int) + 1 + (S : Int) := by rw [IntKind.wrap_i64]; (try clear w8); (try clear w9); (try clear w4); (try clear w5); (try clear w1'); (try clear w2'); (try clear w3'); omega
                          have w3' : IntKind.i64.wrap (d + 1) = d + 1 := by rw [IntKind.wrap_i64]; (try clear w8); (try clear w9); (try clear w4); (try clear w5); (try clear w1'); (try clear w2'); (try clear w3'); omega
                          have cR : Calls Try.prog 34 #[.slice (some ⟨b, off, none⟩) m cap, .int .i64 ((j : Int) + 1), .int .i64 ((j : Int) + 1 + (S : Int)), .int .i64 (d + 1), .bool true] w1 fun e w' => e = .returned (.bool (lev E (j + 1) (j + 1 + S) (d + 1) true (-1))) ∧ Below w1.heap.size w1 w' :=
                            IH.out (j + 1) (j + 1 + S) (d + 1) true w1 (by (try clear w8); (try clear w9); (try clear w4); (try clear w5); (try clear w1'); (try clear w2'); (try clear w3'); omega) (by (try clear w8); (try clear w9); (try clear w4); (try clear w5); (try clear w1'); (try clear w2'); (try clear w3'); omega) (by (try clear w8); (try clear w9); (try clear w4); (try clear w5); (try clear w1'); (try clear w2'); (try clear w3'); omega) (by (try clear w8); (try clear w9); (try clear w4); (try clear w5); (try clear w1'); (try clear w2'); (try clear w3'); omega) (by (try clear w8); (try clear w9); (try clear w4); (try clear w5); (try clear w1'); (try clear w2'); (try clear w3'); omega) (HP.out.below HBx.out)
                          have HY := hide (HYes.out ⟨hv, h6, by (try clear w8); (try clear w9); (try clear w4); (try clear w5); (try clear w1'); (try clear w2'); (try clear w3'); omega, .inr ⟨by first | rfl | trivial, HT.out, by (try clear w8); (try clear w9); (try clear w4); (try clear w5); (try clear w1'); (try clear w2'); (try clear w3'); omega⟩, .inl HK5.out⟩)
                          have hkf : decide (k = 5) = true := decide_eq_true HK5.out
                          rw [hkf] at HY
                          have hkf2 : (k == 5) = true := hkf
                          clear HNo HYes IH hkf
                          have HPw := hide HP.out
                          cases hr : lev E (j + 1) (j + 1 + S) (d + 1) true (-1) with
                          | false =>
                            have HR : Hid (lev E i en d false (-1) = false) := by show _ = _; rw [HY.out, hr]; rfl
                            rw [hr] at cR
                            clear HY HL
                            go_wp2_with fail
                            refine cR.mono ?_
                            rintro e w2 ⟨rfl, hb2⟩
                            have HBy := hide (bnext HBx.out (Nat.le_refl _) hb2)
                            clear hb2 cR
                            go_wp2_with fail
                            go_ret
                            exact ⟨by rw [HR.out]; rfl, HBy.out⟩
                          | true =>
                            rw [hr] at cR
                            have hY2 := HY.out
                            rw [hr, Bool.true_and] at hY2
                            have HQ : Hid (lev E i en d false (-1) = lev E (j + 1 + S) en d false (g * 65536 + n)) := by show _ = _; rw [hY2]; rfl
                            clear HY hY2 HL
                            go_wp2_with fail
                            refine cR.mono ?_
                            rintro e w2 ⟨rfl, hb2⟩
                            have i5' := cell_kept hb2 i5
                            have HBy := hide (bnext HBx.out (Nat.le_refl _) hb2)
                            clear hb2 cR i0 i1 i2 i5
                            go_wp2_with fail
                            go_roundw
                            case rel => exact ⟨j + 1 + S, (g * 65536 + n), by (try clear w8); (try clear w9); (try clear w4); (try clear w5); (try clear w1'); (try clear w2'); (try clear w3'); omega, by (try clear w8); (try clear w9); (try clear w4); (try clear w5); (try clear w1'); (try clear w2'); (try clear w3'); omega, rfl, rfl, HQ.out, HBy.out⟩
                            case measure => simp [intOf]; (try clear w8); (try clear w9); (try clear w4); (try clear w5); (try clear w1'); (try clear w2'); (try clear w3'); omega
                        · have k5' : (k != 5) = true := by simp [k5]
                          by_cases S0 : S = 0
                          · have S1 : ((S : Int) != 0) = false := by simp [S0]
                            have HS0 := hide S0
                            clear S0
                            have w1' : IntKind.i64.wrap ((j : Int) + 1) = (j : Int) + 1 := by rw [IntKind.wrap_i64]; (try clear w8); (try clear w9); (try clear w4); (try clear w5); (try clear w1'); (try clear w2'); (try clear w3'); omega
                            have w2' : IntKind.i64.wrap ((j : Int) + 1 + (S : Int)) = (j : Int) + 1 + (S : Int) := by rw [IntKind.wrap_i64]; (try clear w8); (try clear w9); (try clear w4); (try clear w5); (try clear w1'); (try clear w2'); (try clear w3'); omega
                            have w3' : IntKind.i64.wrap (d + 1) = d + 1 := by rw [IntKind.wrap_i64]; (try clear w8); (try clear w9); (try clear w4); (try clear w5); (try clear w1'); (try clear w2'); (try clear w3'); omega
                            have cR : Calls Try.prog 34 #[.slice (some ⟨b, off, none⟩) m cap, .int .i64 ((j : Int) + 1), .int .i64 ((j : Int) + 1 + (S : Int)), .int .i64 (d + 1), .bool false] w1 fun e w' => e = .returned (.bool (lev E (j + 1) (j + 1 + S) (d + 1) false (-1))) ∧ Below w1.heap.size w1 w' :=
                              IH.out (j + 1) (j + 1 + S) (d + 1) false w1 (by (try clear w8); (try clear w9); (try clear w4); (try clear w5); (try clear w1'); (try clear w2'); (try clear w3'); omega) (by (try clear w8); (try clear w9); (try clear w4); (try clear w5); (try clear w1'); (try clear w2'); (try clear w3'); omega) (by (try clear w8); (try clear w9); (try clear w4); (try clear w5); (try clear w1'); (try clear w2'); (try clear w3'); omega) (by (try clear w8); (try clear w9); (try clear w4); (try clear w5); (try clear w1'); (try clear w2'); (try clear w3'); omega) (by (try clear w8); (try clear w9); (try clear w4); (try clear w5); (try clear w1'); (try clear w2'); (try clear w3'); omega) (HP.out.below HBx.out)
                            have HY := hide (HYes.out ⟨hv, h6, by (try clear w8); (try clear w9); (try clear w4); (try clear w5); (try clear w1'); (try clear w2'); (try clear w3'); omega, .inr ⟨by first | rfl | trivial, HT.out, by (try clear w8); (try clear w9); (try clear w4); (try clear w5); (try clear w1'); (try clear w2'); (try clear w3'); omega⟩, .inr (.inr (by have := HS0.out; (try clear w8); (try clear w9); (try clear w4); (try clear w5); (try clear w1'); (try clear w2'); (try clear w3'); omega))⟩)
                            have hkf : decide (k = 5) = false := decide_eq_false k5
                            rw [hkf] at HY
                            have hkf2 : (k == 5) = false := hkf
                            clear HNo HYes IH hkf
                            have HPw := hide HP.out
                            cases hr : lev E (j + 1) (j + 1 + S) (d + 1) false (-1) with
                            | false =>
                              have HR : Hid (lev E i en d false (-1) = false) := by show _ = _; rw [HY.out, hr]; rfl
                              rw [hr] at cR
                              clear HY HL
                              go_wp2_with fail
                              refine cR.mono ?_
                              rintro e w2 ⟨rfl, hb2⟩
                              have HBy := hide (bnext HBx.out (Nat.le_refl _) hb2)
                              clear hb2 cR
                              go_wp2_with fail
                              go_ret
                              exact ⟨by rw [HR.out]; rfl, HBy.out⟩
                            | true =>
                              rw [hr] at cR
                              have hY2 := HY.out
                              rw [hr, Bool.true_and] at hY2
                              have HQ : Hid (lev E i en d false (-1) = lev E (j + 1 + S) en d false (g * 65536 + n)) := by show _ = _; rw [hY2]; rfl
                              clear HY hY2 HL
                              go_wp2_with fail
                              refine cR.mono ?_
                              rintro e w2 ⟨rfl, hb2⟩
                              have i5' := cell_kept hb2 i5
                              have HBy := hide (bnext HBx.out (Nat.le_refl _) hb2)
                              clear hb2 cR i0 i1 i2 i5
                              go_wp2_with fail
                              go_roundw
                              case rel => exact ⟨j + 1 + S, (g * 65536 + n), by (try clear w8); (try clear w9); (try clear w4); (try clear w5); (try clear w1'); (try clear w2'); (try clear w3'); omega, by (try clear w8); (try clear w9); (try clear w4); (try clear w5); (try clear w1'); (try clear w2'); (try clear w3'); omega, rfl, rfl, HQ.out, HBy.out⟩
                              case measure => simp [intOf]; (try clear w8); (try clear w9); (try clear w4); (try clear w5); (try clear w1'); (try clear w2'); (try clear w3'); omega
                          · have S1 : ((S : Int) != 0) = true := by simp [S0]
                            have HR := hide (HNo.out (fun x => by rcases x.2.2.2.2 with y | y | y; exact k5 y; exact k6 y; (try clear w8); (try clear w9); (try clear w4); (try clear w5); (try clear w1'); (try clear w2'); (try clear w3'); omega))
                            clear HNo HYes IH HP HL
                            go_wp2_with fail
                            go_ret
                            exact ⟨by rw [HR.out]; rfl, HBx.out⟩
          · have q6 : (k == 6) = true := by rw [← Bool.not_eq_false]; exact h6
            have HR := hide (HNo.out (fun x => h6 x.2.1))
            clear HNo HYes IH HP HL
            go_wp2_with fail
            go_ret
            exact ⟨by rw [HR.out]; rfl, HBx.out⟩
      · have c1 : ¬ (j : Int) < (en : Int) := by (try clear w8); (try clear w9); (try clear w4); (try clear w5); (try clear w1'); (try clear w2'); (try clear w3'); omega
        have HR : Hid (lev E i en d false (-1) = true) := HLev.out.trans (lev_end hlt)
        have HBx := hide hb
        clear hb HLev
        go_wp2_with fail
        go_ret
        exact ⟨by rw [HR.out]; rfl, HBx.out⟩
  · have hlev := lev_end (E := E) (i := i) (en := en) (d := d) (it := false) (last := -1) hit
    rw [hlev]
    have hlt : ¬ (i : Int) < (en : Int) := by (try clear w8); (try clear w9); (try clear w4); (try clear w5); (try clear w1'); (try clear w2'); (try clear w3'); omega
    clear HP HL IH HD8
    go_enter Try.func34, Try.ntmps34
    go_wp2_with fail
    go_loopw [11, 12, 13] (fun _ j _ wr => j = .int .i64 i ∧ wr = w) (fun _ _ _ _ => 0)
    case atStart => exact ⟨rfl, rfl⟩
    case round =>
      obtain ⟨rfl, rfl⟩ := hrel
      go_wp2_with fail
      go_ret
      exact ⟨rfl, Below.refl _ _⟩

end Go.Proofs.Yteadhhhhnihoaaa
