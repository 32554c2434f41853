/- Draws of exposures. -/
import Derived.Test.YthfkdejlkegmoaaDgn
import Derived.Test.YthfkdejlkegmoaaFit
import Derived.Deep.RegionHeld3
namespace Go.Proofs.Ythfkdejlkegmoaa
open Go.RowKit

/-- an exposure is appended to a list of the call's own that is drawn -/
theorem growX (w : World) {ops : Array Oper} {rest : List Oper} {o : Oper} {a : Act} {Q : Exit → Act → World → Prop} (hgd : o.guard = none) (s x : Operand)
    (ho : o.op = .call { callee := .builtin .append, args := #[s, x], argTypes := #[24, 24] }) (B : Nat) (v : Value) (n : Nat) (L : List Int) (hs : a.eval s = v) (w0 : World) (hown : w.ownsRow B 32 2 v n (ints L))
    (hb : Below B w0 w) (hB : B ≤ w.heap.size) (x0 x1 : Int) (hx : a.eval x = .slice (some ⟨w.heap.size, 0, none⟩) 1 1) (hn : n ≤ 1048576)
    (h : ∀ v' w', w'.ownsRow B 32 2 v' (n + 1) (ints (L ++ [x0, x1])) → Below B w0 w' → w.heap.size < w'.heap.size → wpList Try.prog ops Q rest (a.put o.dst v') w') :
    wpList Try.prog ops Q (o :: rest) a (w.alloc (.cells #[.int .i64 x0, .int .i64 x1] 32)) := by
  obtain ⟨ti, hi1, hi2, hi3, hi4⟩ := infoE
  exact grow w hgd s x 24 ho B 32 ti (vExp 0 0) 2 16 Try.underlying24 hi1 hi2 hi3 hi4 rfl (by omega) v n L hs w0 hown hb hB [x0, x1] 1 1 hx rfl (by unfold maxLen; omega) (by omega) h

abbrev dxo0 : Oper := { dst := some 32, op := Op.move (Operand.tmp 3), type := 24, pos := "l06_proj.go:278", after := #[], guard := none }
abbrev dxo1 : Oper := { dst := some 33, op := Op.move (Operand.tmp 5), type := 2, pos := "l06_proj.go:278", after := #[], guard := none }
abbrev dxo2 : Oper := { dst := some 34, op := Op.buildSlice 25 3 #[(0, Operand.const (Value.int IntKind.i64 (-1))), (1, Operand.const (Value.int IntKind.i64 31)), (2, Operand.const (Value.int IntKind.i64 32))], type := 25, pos := "l06_proj.go:278", after := #[], guard := none }
abbrev dxo3 : Oper := { dst := some 35, op := Op.move (Operand.tmp 0), type := 34, pos := "l06_proj.go:278", after := #[], guard := none }
abbrev dxo4 : Oper := { dst := some 36, op := Op.call { callee := Callee.value (Operand.func 12), args := #[Operand.tmp 35, Operand.const (Value.int IntKind.i64 3)], argTypes := #[34, 2] }, type := 2, pos := "l06_proj.go:278", after := #[{ on := 3, ground := Ground.data }], guard := none }
abbrev dxo5 : Oper := { dst := some 37, op := Op.indexAddr 25 (Operand.tmp 34) (Operand.tmp 36), type := 0, pos := "l06_proj.go:278", after := #[{ on := 2, ground := Ground.data }, { on := 4, ground := Ground.data }], guard := none }
abbrev dxo6 : Oper := { dst := some 38, op := Op.load 2 (Operand.tmp 37), type := 2, pos := "l06_proj.go:278", after := #[{ on := 5, ground := Ground.data }], guard := none }
abbrev dxo7 : Oper := { dst := some 39, op := Op.buildSlice 25 4 #[(0, Operand.const (Value.int IntKind.i64 (-1))), (1, Operand.const (Value.int IntKind.i64 0)), (2, Operand.const (Value.int IntKind.i64 1000000)), (3, Operand.const (Value.int IntKind.i64 1000001))], type := 25, pos := "l06_proj.go:278", after := #[], guard := none }
abbrev dxo8 : Oper := { dst := some 40, op := Op.move (Operand.tmp 0), type := 34, pos := "l06_proj.go:278", after := #[], guard := none }
abbrev dxo9 : Oper := { dst := some 41, op := Op.call { callee := Callee.value (Operand.func 12), args := #[Operand.tmp 40, Operand.const (Value.int IntKind.i64 4)], argTypes := #[34, 2] }, type := 2, pos := "l06_proj.go:278", after := #[{ on := 8, ground := Ground.data }, { on := 4, ground := Ground.chain }], guard := none }
abbrev dxo10 : Oper := { dst := some 42, op := Op.indexAddr 25 (Operand.tmp 39) (Operand.tmp 41), type := 0, pos := "l06_proj.go:278", after := #[{ on := 7, ground := Ground.data }, { on := 9, ground := Ground.data }], guard := none }
abbrev dxo11 : Oper := { dst := some 43, op := Op.load 2 (Operand.tmp 42), type := 2, pos := "l06_proj.go:278", after := #[{ on := 10, ground := Ground.data }], guard := none }
abbrev dxo12 : Oper := { dst := some 44, op := Op.build 32 #[(0, Operand.tmp 38), (1, Operand.tmp 43)], type := 32, pos := "l06_proj.go:278", after := #[{ on := 6, ground := Ground.data }, { on := 11, ground := Ground.data }], guard := none }
abbrev dxo13 : Oper := { dst := some 45, op := Op.indexAddr 24 (Operand.tmp 32) (Operand.tmp 33), type := 0, pos := "l06_proj.go:278", after := #[{ on := 0, ground := Ground.data }, { on := 1, ground := Ground.data }, { on := 0, ground := Ground.phase }, { on := 1, ground := Ground.phase }, { on := 2, ground := Ground.phase }, { on := 3, ground := Ground.phase }, { on := 4, ground := Ground.phase }, { on := 5, ground := Ground.phase }, { on := 6, ground := Ground.phase }, { on := 7, ground := Ground.phase }, { on := 8, ground := Ground.phase }, { on := 9, ground := Ground.phase }, { on := 10, ground := Ground.phase }, { on := 11, ground := Ground.phase }, { on := 12, ground := Ground.phase }], guard := none }
abbrev dxo14 : Oper := { dst := none, op := Op.store 32 (Operand.tmp 45) (Operand.tmp 44), type := 0, pos := "l06_proj.go:278", after := #[{ on := 13, ground := Ground.data }, { on := 12, ground := Ground.data }, { on := 9, ground := Ground.chain }, { on := 0, ground := Ground.phase }, { on := 1, ground := Ground.phase }, { on := 2, ground := Ground.phase }, { on := 3, ground := Ground.phase }, { on := 4, ground := Ground.phase }, { on := 5, ground := Ground.phase }, { on := 6, ground := Ground.phase }, { on := 7, ground := Ground.phase }, { on := 8, ground := Ground.phase }, { on := 9, ground := Ground.phase }, { on := 10, ground := Ground.phase }, { on := 11, ground := Ground.phase }, { on := 12, ground := Ground.phase }], guard := none }

theorem cell_up {w w' : World} (hb : Below w.heap.size w w') {p : Addr} {v : Value} (h : w.cell? p = some v) : w'.cell? p = some v := (hb.cell (World.block_lt_of_cell? _ _ h)).trans h

abbrev EL := GL 32 2

set_option maxRecDepth 100000 in
set_option maxHeartbeats 4000000 in
theorem drawExposures_any (p : Nat) (a : Option Addr) (len cap : Nat) (w : World) (h : Cur p a len cap w) (hp : p < w.heap.size) (hab : len = 0 ∨ ∀ b off, a = some ⟨b, off, none⟩ → b < w.heap.size) :
    Calls Try.prog 11 #[.pointer (some ⟨p, 0, none⟩)] w fun e w' => ∃ v m L, e = .returned v ∧ m ≤ 13 ∧ EL p a len cap w v m L w' := by
  have HAB := hide hab
  have hb0 := bnew w (.cells #[] 32)
  have HP0 : Hid (EL p a len cap w (.slice (some ⟨w.heap.size, 0, none⟩) 0 0) 0 [] (w.alloc (.cells #[] 32))) := ⟨World.ownsRow_lit w #[] 0 (Nat.le_refl _) (by unfold maxLen; omega) rfl, h.below hb0, Kept.of_below hb0⟩
  clear h hab hb0
  go_enter Try.func11, Try.ntmps11
  go_upto_region 2 with fail
  generalize hw1 : w.alloc (.cells #[] 32) = w1 at *
  clear hw1
  have c30 := below_any p a len cap _ HP0.out.cur 14 (by omega) (by omega)
  go_wp2_with fail
  refine c30.mono ?_
  rintro e w2 ⟨y, rfl, y0, y1, hc, hk⟩
  obtain ⟨Y, rfl⟩ : ∃ Y : Nat, y = Y := ⟨y.toNat, by omega⟩
  have HP2 := hide (HP0.out.next hp hc hk)
  clear c30 hc hk HP0
  go_wp2_with fail
  go_loopw [3, 4] (fun s i wr => ∃ (v : Value) (m j : Nat) (L : List Int), v = s ∧ m + j ≤ 13 ∧ i = .int .i64 j ∧ EL p a len cap w v m L wr) (fun _ i _ => (intOf i).toNat)
  case atStart => exact ⟨_, 0, Y, [], rfl, by omega, rfl, HP2.out⟩
  case round =>
    obtain ⟨v, m, j, L, rfl, hmj, rfl, hP⟩ := hrel
    have HP := hide hP
    clear hP HP2
    by_cases hj : 0 < j
    · have c1 := below_any p a len cap _ HP.out.cur 5 (by omega) (by omega)
      go_wp2_with fail
      refine c1.mono ?_
      rintro e w3 ⟨x1, rfl, -, -, hc, hk⟩
      have HP3 := hide (HP.out.next hp hc hk)
      clear c1 hc hk HP
      have c2 := belowG p a len cap _ HP3.out.cur 300
      go_wp2_with fail
      refine c2.mono ?_
      rintro e w4 ⟨x2, rfl, hc, hk⟩
      have HP4 := hide (HP3.out.next hp hc hk)
      have HS4 := hide HP4.out.kept.size
      clear c2 hc hk HP3
      go_wp2_with (refine growX _ rfl _ _ rfl w.heap.size v m L rfl w4 HP4.out.own (Below.refl _ _) HS4.out x1 x2 rfl (by omega) ?_)
      intro v' w' ho' hb' hs'
      have HP8 : Hid (EL p a len cap w v' (m + 1) (L ++ [x1, x2]) w') := ⟨ho', HP4.out.cur.belowB hb' hp HAB.out, HP4.out.kept.belowB hb' (Nat.le_refl _)⟩
      clear ho' hb' hs' HP4 HS4
      go_wp2_with fail
      exact ⟨⟨v', m + 1, j - 1, _, rfl, by omega, by congr 1; omega, HP8.out⟩, by simp [intOf]; omega⟩
    · obtain rfl : j = 0 := by omega
      have hm : m ≤ 13 := by omega
      clear hmj hj
      have HPa := HP
      go_upto_region 6 with fail
      go_cut [3, 27] (fun s t wc => ∃ (v : Value) (q : Bool), v = s ∧ t = .bool q ∧ (q = true → m ≠ 0) ∧ EL p a len cap w v m L wc)
      case first =>
        have c := once_any p a len cap _ HP.out.cur 14 (by omega) (by omega)
        go_wp2_with fail
        refine c.mono ?_
        rintro e w3 ⟨q, rfl, hc, hk⟩
        have HP3 := hide (HP.out.next hp hc hk)
        clear c hc hk HP HPa
        obtain ⟨ad, cp, rfl⟩ := HP3.out.isl
        cases q
        · go_wp2_with fail
          go_meet
          exact ⟨_, _, rfl, rfl, by simp, HP3.out⟩
        · go_wp2_with fail
          go_meet
          exact ⟨_, _, rfl, rfl, by simp; omega, HP3.out⟩
      case rest =>
        obtain ⟨v2, q, rfl, rfl, hq, hP⟩ := hcut
        have HP := hide hP
        have HQ := hide hq
        clear hP hq HPa
        go_upto_if 27 with fail
        go_cut [3] (fun s wc => ∃ (v : Value) (L' : List Int), v = s ∧ EL p a len cap w v m L' wc)
        case first =>
          cases q
          · go_wp2_with fail
            go_meet
            exact ⟨_, _, rfl, HP.out⟩
          · have hm0 := HQ.out rfl
            obtain ⟨b, cp, rfl, -, -⟩ := HP.out.form hm0
            have c := below_any p a len cap _ HP.out.cur (m : Int) (by omega) (by omega)
            go_wp2_with fail
            refine c.mono ?_
            rintro e w3 ⟨y, rfl, g0, g1, hc, hk⟩
            obtain ⟨KI, rfl⟩ : ∃ KI : Nat, y = KI := ⟨y.toNat, by omega⟩
            have hKI : KI < m := by omega
            have HP3 := hide (HP.out.next hp hc hk)
            clear c hc hk HP HQ g0 g1
            go_upto_region 8 with fail
            have c3 := fun wz h => below_any p a len cap wz h 3 (by omega) (by omega)
            have c4 := fun wz h => below_any p a len cap wz h 4 (by omega) (by omega)
            have HG0 : Hid (EL p a len cap w (.slice (some ⟨b, 0, none⟩) m cp) m L w3.drew) := HP3.out.next hp (HP3.out.cur.drewN 1) ((Kept.refl p w3).drew)
            have hKi : (KI : Int) < (m : Int) := by omega
            clear HP3
            refine wp_region_held_drew (S := fun (_ : World) => True) (by kernel_rfl) trivial (fun hHeld => ?_)
            generalize w3.drew = wd at *
            refine wpAnyH_take (i := 0) (oi := dxo0) (v := ?_) rfl (by kernel_rfl) (by kernel_rfl) (by kernel_rfl) (fun _ _ _ h => h) (Or.inl ⟨by rfl, ?hy1⟩) (by assumption) ?rest1
            case hy1 => (intro w' hSw; (try dsimp only at hSw); (try unfold dxo0); go_simp; try with_reducible rfl)
            (try simp only [Act.put, List.setIfInBounds_toArray, List.set_cons_zero, List.set_cons_succ])
            refine wpAnyH_take (i := 1) (oi := dxo1) (v := ?_) rfl (by kernel_rfl) (by kernel_rfl) (by kernel_rfl) (fun _ _ _ h => h) (Or.inl ⟨by rfl, ?hy2⟩) (by assumption) ?rest2
            case hy2 => (intro w' hSw; (try dsimp only at hSw); (try unfold dxo1); go_simp; try with_reducible rfl)
            (try simp only [Act.put, List.setIfInBounds_toArray, List.set_cons_zero, List.set_cons_succ])
            refine wpAnyH_take (i := 3) (oi := dxo3) (v := ?_) rfl (by kernel_rfl) (by kernel_rfl) (by kernel_rfl) (fun _ _ _ h => h) (Or.inl ⟨by rfl, ?hy3⟩) (by assumption) ?rest3
            case hy3 => (intro w' hSw; (try dsimp only at hSw); (try unfold dxo3); go_simp; try with_reducible rfl)
            (try simp only [Act.put, List.setIfInBounds_toArray, List.set_cons_zero, List.set_cons_succ])
            refine wpAnyH_take (i := 8) (oi := dxo8) (v := ?_) rfl (by kernel_rfl) (by kernel_rfl) (by kernel_rfl) (fun _ _ _ h => h) (Or.inl ⟨by rfl, ?hy4⟩) (by assumption) ?rest4
            case hy4 => (intro w' hSw; (try dsimp only at hSw); (try unfold dxo8); go_simp; try with_reducible rfl)
            (try simp only [Act.put, List.setIfInBounds_toArray, List.set_cons_zero, List.set_cons_succ])
            refine wpAnyH_ready (rs := [2, 4, 7]) (by kernel_rfl) (by simp) ?_
            refine AllReadyH.cons (o := dxo2) rfl (fun K hK => ?_) (AllReadyH.cons (o := dxo4) rfl (fun K hK => ?_) (AllReadyH.cons (o := dxo7) rfl (fun K hK => ?_) AllReadyH.nil))
            · (try unfold dxo2)
              go_simp
              have HG2 := hide (HG0.out.next hp (HG0.out.cur.below (bnew wd (.cells #[.int .i64 (-1), .int .i64 31, .int .i64 32] 2))) (Kept.of_below (bnew wd (.cells #[.int .i64 (-1), .int .i64 31, .int .i64 32] 2))))
              have TA4 : Hid (∀ Y, Y < 3 → ∃ z : Int, (wd.alloc (.cells #[.int .i64 (-1), .int .i64 31, .int .i64 32] 2)).cell? ⟨wd.heap.size, Y, none⟩ = some (.int .i64 z)) := fun Y h => lit3 (w := wd) Y h
              have hne5 : wd.heap.size ≠ p := by have := HG0.out.kept.size; omega
              refine hK.out _ (wd.alloc (.cells #[.int .i64 (-1), .int .i64 31, .int .i64 32] 2)) trivial (fun hHeld => ?_)
              clear hK K
              (try simp only [Act.put, List.setIfInBounds_toArray, List.set_cons_zero, List.set_cons_succ])
              generalize hgwv1 : wd.alloc (.cells #[.int .i64 (-1), .int .i64 31, .int .i64 32] 2) = wv1 at *
              clear hgwv1
              generalize hqwv1 : wd.heap.size = X3 at *
              clear hqwv1
              refine wpAnyH_ready (rs := [4, 7]) (by kernel_rfl) (by simp) ?_
              refine AllReadyH.cons (o := dxo4) rfl (fun K hK => ?_) (AllReadyH.cons (o := dxo7) rfl (fun K hK => ?_) AllReadyH.nil)
              · (try unfold dxo4)
                go_simp
                (with_reducible refine (c3 _ HG2.out.cur).mono ?_)
                rintro e wv6 ⟨y, rfl, y0, y1, hc, hk8⟩
                obtain ⟨YA, rfl⟩ : ∃ YA : Nat, y = YA := ⟨y.toNat, by omega⟩
                have hYA : YA < 3 := by omega
                have hYAi : (YA : Int) < 3 := by omega
                have HG7 := hide (HG2.out.next hp hc hk8)
                have TA9 : Hid (∀ Y, Y < 3 → ∃ z : Int, wv6.cell? ⟨X3, Y, none⟩ = some (.int .i64 z)) := fun Y h => (TA4.out Y h).imp fun z hz => hk8.cell (a := ⟨X3, Y, none⟩) hne5 hz
                clear hc hk8 y0 y1
                dsimp only
                refine hK.out _ wv6 trivial (fun hHeld => ?_)
                clear hK K
                (try simp only [Act.put, List.setIfInBounds_toArray, List.set_cons_zero, List.set_cons_succ])
                refine wpAnyH_take (i := 5) (oi := dxo5) (v := ?_) rfl (by kernel_rfl) (by kernel_rfl) (by kernel_rfl) (fun _ _ _ h => h) (Or.inl ⟨by rfl, ?hy5⟩) (by assumption) ?rest5
                case hy5 => (intro w' hSw; (try dsimp only at hSw); (try unfold dxo5); go_simp; try with_reducible rfl)
                (try simp only [Act.put, List.setIfInBounds_toArray, List.set_cons_zero, List.set_cons_succ])
                refine wpAnyH_ready (rs := [6, 7, 9]) (by kernel_rfl) (by simp) ?_
                refine AllReadyH.cons (o := dxo6) rfl (fun K hK => ?_) (AllReadyH.cons (o := dxo7) rfl (fun K hK => ?_) (AllReadyH.cons (o := dxo9) rfl (fun K hK => ?_) AllReadyH.nil))
                · obtain ⟨zA, hzA⟩ := TA9.out YA hYA
                  (try unfold dxo6)
                  go_simp
                  refine hK.out _ wv6 trivial (fun hHeld => ?_)
                  clear hK K
                  (try simp only [Act.put, List.setIfInBounds_toArray, List.set_cons_zero, List.set_cons_succ])
                  clear hzA
                  refine wpAnyH_ready (rs := [7, 9]) (by kernel_rfl) (by simp) ?_
                  refine AllReadyH.cons (o := dxo7) rfl (fun K hK => ?_) (AllReadyH.cons (o := dxo9) rfl (fun K hK => ?_) AllReadyH.nil)
                  · (try unfold dxo7)
                    go_simp
                    have HG11 := hide (HG7.out.next hp (HG7.out.cur.below (bnew wv6 (.cells #[.int .i64 (-1), .int .i64 0, .int .i64 1000000, .int .i64 1000001] 2))) (Kept.of_below (bnew wv6 (.cells #[.int .i64 (-1), .int .i64 0, .int .i64 1000000, .int .i64 1000001] 2))))
                    have TB13 : Hid (∀ Y, Y < 4 → ∃ z : Int, (wv6.alloc (.cells #[.int .i64 (-1), .int .i64 0, .int .i64 1000000, .int .i64 1000001] 2)).cell? ⟨wv6.heap.size, Y, none⟩ = some (.int .i64 z)) := fun Y h => lit4 (w := wv6) Y h
                    have hne14 : wv6.heap.size ≠ p := by have := HG7.out.kept.size; omega
                    refine hK.out _ (wv6.alloc (.cells #[.int .i64 (-1), .int .i64 0, .int .i64 1000000, .int .i64 1000001] 2)) trivial (fun hHeld => ?_)
                    clear hK K
                    (try simp only [Act.put, List.setIfInBounds_toArray, List.set_cons_zero, List.set_cons_succ])
                    generalize hgwv10 : wv6.alloc (.cells #[.int .i64 (-1), .int .i64 0, .int .i64 1000000, .int .i64 1000001] 2) = wv10 at *
                    clear hgwv10
                    generalize hqwv10 : wv6.heap.size = X12 at *
                    clear hqwv10
                    refine wpAnyH_ready (rs := [9]) (by kernel_rfl) (by simp) ?_
                    refine AllReadyH.cons (o := dxo9) rfl (fun K hK => ?_) AllReadyH.nil
                    (try unfold dxo9)
                    go_simp
                    (with_reducible refine (c4 _ HG11.out.cur).mono ?_)
                    rintro e wv15 ⟨y, rfl, y0, y1, hc, hk17⟩
                    obtain ⟨YB, rfl⟩ : ∃ YB : Nat, y = YB := ⟨y.toNat, by omega⟩
                    have hYB : YB < 4 := by omega
                    have hYBi : (YB : Int) < 4 := by omega
                    have HG16 := hide (HG11.out.next hp hc hk17)
                    have TB18 : Hid (∀ Y, Y < 4 → ∃ z : Int, wv15.cell? ⟨X12, Y, none⟩ = some (.int .i64 z)) := fun Y h => (TB13.out Y h).imp fun z hz => hk17.cell (a := ⟨X12, Y, none⟩) hne14 hz
                    clear hc hk17 y0 y1
                    dsimp only
                    refine hK.out _ wv15 trivial (fun hHeld => ?_)
                    clear hK K
                    (try simp only [Act.put, List.setIfInBounds_toArray, List.set_cons_zero, List.set_cons_succ])
                    refine wpAnyH_take (i := 10) (oi := dxo10) (v := ?_) rfl (by kernel_rfl) (by kernel_rfl) (by kernel_rfl) (fun _ _ _ h => h) (Or.inl ⟨by rfl, ?hy6⟩) (by assumption) ?rest6
                    case hy6 => (intro w' hSw; (try dsimp only at hSw); (try unfold dxo10); go_simp; try with_reducible rfl)
                    (try simp only [Act.put, List.setIfInBounds_toArray, List.set_cons_zero, List.set_cons_succ])
                    refine wpAnyH_ready (rs := [11]) (by kernel_rfl) (by simp) ?_
                    refine AllReadyH.cons (o := dxo11) rfl (fun K hK => ?_) AllReadyH.nil
                    obtain ⟨zB, hzB⟩ := TB18.out YB hYB
                    (try unfold dxo11)
                    go_simp
                    refine hK.out _ wv15 trivial (fun hHeld => ?_)
                    clear hK K
                    (try simp only [Act.put, List.setIfInBounds_toArray, List.set_cons_zero, List.set_cons_succ])
                    clear hzB
                    refine wpAnyH_take (i := 12) (oi := dxo12) (v := ?_) rfl (by kernel_rfl) (by kernel_rfl) (by kernel_rfl) (fun _ _ _ h => h) (Or.inl ⟨by rfl, ?hy7⟩) (by assumption) ?rest7
                    case hy7 => (intro w' hSw; (try dsimp only at hSw); (try unfold dxo12); go_simp; try with_reducible rfl)
                    (try simp only [Act.put, List.setIfInBounds_toArray, List.set_cons_zero, List.set_cons_succ])
                    refine wpAnyH_take (i := 13) (oi := dxo13) (v := ?_) rfl (by kernel_rfl) (by kernel_rfl) (by kernel_rfl) (fun _ _ _ h => h) (Or.inl ⟨by rfl, ?hy8⟩) (by assumption) ?rest8
                    case hy8 => (intro w' hSw; (try dsimp only at hSw); (try unfold dxo13); go_simp; try with_reducible rfl)
                    (try simp only [Act.put, List.setIfInBounds_toArray, List.set_cons_zero, List.set_cons_succ])
                    refine wpAnyH_ready (rs := [14]) (by kernel_rfl) (by simp) ?_
                    refine AllReadyH.cons (o := dxo14) rfl (fun K hK => ?_) AllReadyH.nil
                    obtain ⟨b', cp', hbe, hbw, hcl⟩ := HG16.out.form hm0
                    cases hbe
                    obtain ⟨⟨v0, hv0⟩, hf0⟩ := hcl (KI * 2) (by omega)
                    obtain ⟨⟨v1, hv1⟩, hf1⟩ := hcl (KI * 2 + 1) (by omega)
                    have GF := hide ((HG16.out.set hp HAB.out hbw (KI * 2) zA).set hp HAB.out hbw (KI * 2 + 1) zB)
                    clear hcl
                    (try unfold dxo14)
                    go_simp
                    refine hK.out _ ((wv15.setCell ⟨b, KI * 2, none⟩ (.int .i64 zA)).setCell ⟨b, KI * 2 + 1, none⟩ (.int .i64 zB)) trivial (fun hHeld => ?_)
                    clear hK K
                    (try simp only [Act.put, List.setIfInBounds_toArray, List.set_cons_zero, List.set_cons_succ])
                    refine wpAnyH_done (by kernel_rfl) ?_ _
                    go_wp2_with fail
                    go_meet
                    exact ⟨_, _, rfl, GF.out⟩
                  · (try unfold dxo9)
                    go_simp
                    (with_reducible refine (c4 _ HG7.out.cur).mono ?_)
                    rintro e wv19 ⟨y, rfl, y0, y1, hc, hk21⟩
                    obtain ⟨YB, rfl⟩ : ∃ YB : Nat, y = YB := ⟨y.toNat, by omega⟩
                    have hYB : YB < 4 := by omega
                    have hYBi : (YB : Int) < 4 := by omega
                    have HG20 := hide (HG7.out.next hp hc hk21)
                    clear hc hk21 y0 y1
                    dsimp only
                    refine hK.out _ wv19 trivial (fun hHeld => ?_)
                    clear hK K
                    (try simp only [Act.put, List.setIfInBounds_toArray, List.set_cons_zero, List.set_cons_succ])
                    refine wpAnyH_ready (rs := [7]) (by kernel_rfl) (by simp) ?_
                    refine AllReadyH.cons (o := dxo7) rfl (fun K hK => ?_) AllReadyH.nil
                    (try unfold dxo7)
                    go_simp
                    have HG23 := hide (HG20.out.next hp (HG20.out.cur.below (bnew wv19 (.cells #[.int .i64 (-1), .int .i64 0, .int .i64 1000000, .int .i64 1000001] 2))) (Kept.of_below (bnew wv19 (.cells #[.int .i64 (-1), .int .i64 0, .int .i64 1000000, .int .i64 1000001] 2))))
                    have TB25 : Hid (∀ Y, Y < 4 → ∃ z : Int, (wv19.alloc (.cells #[.int .i64 (-1), .int .i64 0, .int .i64 1000000, .int .i64 1000001] 2)).cell? ⟨wv19.heap.size, Y, none⟩ = some (.int .i64 z)) := fun Y h => lit4 (w := wv19) Y h
                    have hne26 : wv19.heap.size ≠ p := by have := HG20.out.kept.size; omega
                    refine hK.out _ (wv19.alloc (.cells #[.int .i64 (-1), .int .i64 0, .int .i64 1000000, .int .i64 1000001] 2)) trivial (fun hHeld => ?_)
                    clear hK K
                    (try simp only [Act.put, List.setIfInBounds_toArray, List.set_cons_zero, List.set_cons_succ])
                    generalize hgwv22 : wv19.alloc (.cells #[.int .i64 (-1), .int .i64 0, .int .i64 1000000, .int .i64 1000001] 2) = wv22 at *
                    clear hgwv22
                    generalize hqwv22 : wv19.heap.size = X24 at *
                    clear hqwv22
                    refine wpAnyH_take (i := 10) (oi := dxo10) (v := ?_) rfl (by kernel_rfl) (by kernel_rfl) (by kernel_rfl) (fun _ _ _ h => h) (Or.inl ⟨by rfl, ?hy9⟩) (by assumption) ?rest9
                    case hy9 => (intro w' hSw; (try dsimp only at hSw); (try unfold dxo10); go_simp; try with_reducible rfl)
                    (try simp only [Act.put, List.setIfInBounds_toArray, List.set_cons_zero, List.set_cons_succ])
                    refine wpAnyH_ready (rs := [11]) (by kernel_rfl) (by simp) ?_
                    refine AllReadyH.cons (o := dxo11) rfl (fun K hK => ?_) AllReadyH.nil
                    obtain ⟨zB, hzB⟩ := TB25.out YB hYB
                    (try unfold dxo11)
                    go_simp
                    refine hK.out _ wv22 trivial (fun hHeld => ?_)
                    clear hK K
                    (try simp only [Act.put, List.setIfInBounds_toArray, List.set_cons_zero, List.set_cons_succ])
                    clear hzB
                    refine wpAnyH_take (i := 12) (oi := dxo12) (v := ?_) rfl (by kernel_rfl) (by kernel_rfl) (by kernel_rfl) (fun _ _ _ h => h) (Or.inl ⟨by rfl, ?hy10⟩) (by assumption) ?rest10
                    case hy10 => (intro w' hSw; (try dsimp only at hSw); (try unfold dxo12); go_simp; try with_reducible rfl)
                    (try simp only [Act.put, List.setIfInBounds_toArray, List.set_cons_zero, List.set_cons_succ])
                    refine wpAnyH_take (i := 13) (oi := dxo13) (v := ?_) rfl (by kernel_rfl) (by kernel_rfl) (by kernel_rfl) (fun _ _ _ h => h) (Or.inl ⟨by rfl, ?hy11⟩) (by assumption) ?rest11
                    case hy11 => (intro w' hSw; (try dsimp only at hSw); (try unfold dxo13); go_simp; try with_reducible rfl)
                    (try simp only [Act.put, List.setIfInBounds_toArray, List.set_cons_zero, List.set_cons_succ])
                    refine wpAnyH_ready (rs := [14]) (by kernel_rfl) (by simp) ?_
                    refine AllReadyH.cons (o := dxo14) rfl (fun K hK => ?_) AllReadyH.nil
                    obtain ⟨b', cp', hbe, hbw, hcl⟩ := HG23.out.form hm0
                    cases hbe
                    obtain ⟨⟨v0, hv0⟩, hf0⟩ := hcl (KI * 2) (by omega)
                    obtain ⟨⟨v1, hv1⟩, hf1⟩ := hcl (KI * 2 + 1) (by omega)
                    have GF := hide ((HG23.out.set hp HAB.out hbw (KI * 2) zA).set hp HAB.out hbw (KI * 2 + 1) zB)
                    clear hcl
                    (try unfold dxo14)
                    go_simp
                    refine hK.out _ ((wv22.setCell ⟨b, KI * 2, none⟩ (.int .i64 zA)).setCell ⟨b, KI * 2 + 1, none⟩ (.int .i64 zB)) trivial (fun hHeld => ?_)
                    clear hK K
                    (try simp only [Act.put, List.setIfInBounds_toArray, List.set_cons_zero, List.set_cons_succ])
                    refine wpAnyH_done (by kernel_rfl) ?_ _
                    go_wp2_with fail
                    go_meet
                    exact ⟨_, _, rfl, GF.out⟩
                · (try unfold dxo7)
                  go_simp
                  have HG28 := hide (HG7.out.next hp (HG7.out.cur.below (bnew wv6 (.cells #[.int .i64 (-1), .int .i64 0, .int .i64 1000000, .int .i64 1000001] 2))) (Kept.of_below (bnew wv6 (.cells #[.int .i64 (-1), .int .i64 0, .int .i64 1000000, .int .i64 1000001] 2))))
                  have TB30 : Hid (∀ Y, Y < 4 → ∃ z : Int, (wv6.alloc (.cells #[.int .i64 (-1), .int .i64 0, .int .i64 1000000, .int .i64 1000001] 2)).cell? ⟨wv6.heap.size, Y, none⟩ = some (.int .i64 z)) := fun Y h => lit4 (w := wv6) Y h
                  have hne31 : wv6.heap.size ≠ p := by have := HG7.out.kept.size; omega
                  have TA32 : Hid (∀ Y, Y < 3 → ∃ z : Int, (wv6.alloc (.cells #[.int .i64 (-1), .int .i64 0, .int .i64 1000000, .int .i64 1000001] 2)).cell? ⟨X3, Y, none⟩ = some (.int .i64 z)) := fun Y h => (TA9.out Y h).imp fun z hz => cell_up (bnew wv6 (.cells #[.int .i64 (-1), .int .i64 0, .int .i64 1000000, .int .i64 1000001] 2)) hz
                  refine hK.out _ (wv6.alloc (.cells #[.int .i64 (-1), .int .i64 0, .int .i64 1000000, .int .i64 1000001] 2)) trivial (fun hHeld => ?_)
                  clear hK K
                  (try simp only [Act.put, List.setIfInBounds_toArray, List.set_cons_zero, List.set_cons_succ])
                  generalize hgwv27 : wv6.alloc (.cells #[.int .i64 (-1), .int .i64 0, .int .i64 1000000, .int .i64 1000001] 2) = wv27 at *
                  clear hgwv27
                  generalize hqwv27 : wv6.heap.size = X29 at *
                  clear hqwv27
                  refine wpAnyH_ready (rs := [6, 9]) (by kernel_rfl) (by simp) ?_
                  refine AllReadyH.cons (o := dxo6) rfl (fun K hK => ?_) (AllReadyH.cons (o := dxo9) rfl (fun K hK => ?_) AllReadyH.nil)
                  · obtain ⟨zA, hzA⟩ := TA32.out YA hYA
                    (try unfold dxo6)
                    go_simp
                    refine hK.out _ wv27 trivial (fun hHeld => ?_)
                    clear hK K
                    (try simp only [Act.put, List.setIfInBounds_toArray, List.set_cons_zero, List.set_cons_succ])
                    clear hzA
                    refine wpAnyH_ready (rs := [9]) (by kernel_rfl) (by simp) ?_
                    refine AllReadyH.cons (o := dxo9) rfl (fun K hK => ?_) AllReadyH.nil
                    (try unfold dxo9)
                    go_simp
                    (with_reducible refine (c4 _ HG28.out.cur).mono ?_)
                    rintro e wv33 ⟨y, rfl, y0, y1, hc, hk35⟩
                    obtain ⟨YB, rfl⟩ : ∃ YB : Nat, y = YB := ⟨y.toNat, by omega⟩
                    have hYB : YB < 4 := by omega
                    have hYBi : (YB : Int) < 4 := by omega
                    have HG34 := hide (HG28.out.next hp hc hk35)
                    have TB36 : Hid (∀ Y, Y < 4 → ∃ z : Int, wv33.cell? ⟨X29, Y, none⟩ = some (.int .i64 z)) := fun Y h => (TB30.out Y h).imp fun z hz => hk35.cell (a := ⟨X29, Y, none⟩) hne31 hz
                    clear hc hk35 y0 y1
                    dsimp only
                    refine hK.out _ wv33 trivial (fun hHeld => ?_)
                    clear hK K
                    (try simp only [Act.put, List.setIfInBounds_toArray, List.set_cons_zero, List.set_cons_succ])
                    refine wpAnyH_take (i := 10) (oi := dxo10) (v := ?_) rfl (by kernel_rfl) (by kernel_rfl) (by kernel_rfl) (fun _ _ _ h => h) (Or.inl ⟨by rfl, ?hy12⟩) (by assumption) ?rest12
                    case hy12 => (intro w' hSw; (try dsimp only at hSw); (try unfold dxo10); go_simp; try with_reducible rfl)
                    (try simp only [Act.put, List.setIfInBounds_toArray, List.set_cons_zero, List.set_cons_succ])
                    refine wpAnyH_ready (rs := [11]) (by kernel_rfl) (by simp) ?_
                    refine AllReadyH.cons (o := dxo11) rfl (fun K hK => ?_) AllReadyH.nil
                    obtain ⟨zB, hzB⟩ := TB36.out YB hYB
                    (try unfold dxo11)
                    go_simp
                    refine hK.out _ wv33 trivial (fun hHeld => ?_)
                    clear hK K
                    (try simp only [Act.put, List.setIfInBounds_toArray, List.set_cons_zero, List.set_cons_succ])
                    clear hzB
                    refine wpAnyH_take (i := 12) (oi := dxo12) (v := ?_) rfl (by kernel_rfl) (by kernel_rfl) (by kernel_rfl) (fun _ _ _ h => h) (Or.inl ⟨by rfl, ?hy13⟩) (by assumption) ?rest13
                    case hy13 => (intro w' hSw; (try dsimp only at hSw); (try unfold dxo12); go_simp; try with_reducible rfl)
                    (try simp only [Act.put, List.setIfInBounds_toArray, List.set_cons_zero, List.set_cons_succ])
                    refine wpAnyH_take (i := 13) (oi := dxo13) (v := ?_) rfl (by kernel_rfl) (by kernel_rfl) (by kernel_rfl) (fun _ _ _ h => h) (Or.inl ⟨by rfl, ?hy14⟩) (by assumption) ?rest14
                    case hy14 => (intro w' hSw; (try dsimp only at hSw); (try unfold dxo13); go_simp; try with_reducible rfl)
                    (try simp only [Act.put, List.setIfInBounds_toArray, List.set_cons_zero, List.set_cons_succ])
                    refine wpAnyH_ready (rs := [14]) (by kernel_rfl) (by simp) ?_
                    refine AllReadyH.cons (o := dxo14) rfl (fun K hK => ?_) AllReadyH.nil
                    obtain ⟨b', cp', hbe, hbw, hcl⟩ := HG34.out.form hm0
                    cases hbe
                    obtain ⟨⟨v0, hv0⟩, hf0⟩ := hcl (KI * 2) (by omega)
                    obtain ⟨⟨v1, hv1⟩, hf1⟩ := hcl (KI * 2 + 1) (by omega)
                    have GF := hide ((HG34.out.set hp HAB.out hbw (KI * 2) zA).set hp HAB.out hbw (KI * 2 + 1) zB)
                    clear hcl
                    (try unfold dxo14)
                    go_simp
                    refine hK.out _ ((wv33.setCell ⟨b, KI * 2, none⟩ (.int .i64 zA)).setCell ⟨b, KI * 2 + 1, none⟩ (.int .i64 zB)) trivial (fun hHeld => ?_)
                    clear hK K
                    (try simp only [Act.put, List.setIfInBounds_toArray, List.set_cons_zero, List.set_cons_succ])
                    refine wpAnyH_done (by kernel_rfl) ?_ _
                    go_wp2_with fail
                    go_meet
                    exact ⟨_, _, rfl, GF.out⟩
                  · (try unfold dxo9)
                    go_simp
                    (with_reducible refine (c4 _ HG28.out.cur).mono ?_)
                    rintro e wv37 ⟨y, rfl, y0, y1, hc, hk39⟩
                    obtain ⟨YB, rfl⟩ : ∃ YB : Nat, y = YB := ⟨y.toNat, by omega⟩
                    have hYB : YB < 4 := by omega
                    have hYBi : (YB : Int) < 4 := by omega
                    have HG38 := hide (HG28.out.next hp hc hk39)
                    have TA40 : Hid (∀ Y, Y < 3 → ∃ z : Int, wv37.cell? ⟨X3, Y, none⟩ = some (.int .i64 z)) := fun Y h => (TA32.out Y h).imp fun z hz => hk39.cell (a := ⟨X3, Y, none⟩) hne5 hz
                    have TB41 : Hid (∀ Y, Y < 4 → ∃ z : Int, wv37.cell? ⟨X29, Y, none⟩ = some (.int .i64 z)) := fun Y h => (TB30.out Y h).imp fun z hz => hk39.cell (a := ⟨X29, Y, none⟩) hne31 hz
                    clear hc hk39 y0 y1
                    dsimp only
                    refine hK.out _ wv37 trivial (fun hHeld => ?_)
                    clear hK K
                    (try simp only [Act.put, List.setIfInBounds_toArray, List.set_cons_zero, List.set_cons_succ])
                    refine wpAnyH_take (i := 10) (oi := dxo10) (v := ?_) rfl (by kernel_rfl) (by kernel_rfl) (by kernel_rfl) (fun _ _ _ h => h) (Or.inl ⟨by rfl, ?hy15⟩) (by assumption) ?rest15
                    case hy15 => (intro w' hSw; (try dsimp only at hSw); (try unfold dxo10); go_simp; try with_reducible rfl)
                    (try simp only [Act.put, List.setIfInBounds_toArray, List.set_cons_zero, List.set_cons_succ])
                    refine wpAnyH_ready (rs := [6, 11]) (by kernel_rfl) (by simp) ?_
                    refine AllReadyH.cons (o := dxo6) rfl (fun K hK => ?_) (AllReadyH.cons (o := dxo11) rfl (fun K hK => ?_) AllReadyH.nil)
                    · obtain ⟨zA, hzA⟩ := TA40.out YA hYA
                      (try unfold dxo6)
                      go_simp
                      refine hK.out _ wv37 trivial (fun hHeld => ?_)
                      clear hK K
                      (try simp only [Act.put, List.setIfInBounds_toArray, List.set_cons_zero, List.set_cons_succ])
                      clear hzA
                      refine wpAnyH_ready (rs := [11]) (by kernel_rfl) (by simp) ?_
                      refine AllReadyH.cons (o := dxo11) rfl (fun K hK => ?_) AllReadyH.nil
                      obtain ⟨zB, hzB⟩ := TB41.out YB hYB
                      (try unfold dxo11)
                      go_simp
                      refine hK.out _ wv37 trivial (fun hHeld => ?_)
                      clear hK K
                      (try simp only [Act.put, List.setIfInBounds_toArray, List.set_cons_zero, List.set_cons_succ])
                      clear hzB
                      refine wpAnyH_take (i := 12) (oi := dxo12) (v := ?_) rfl (by kernel_rfl) (by kernel_rfl) (by kernel_rfl) (fun _ _ _ h => h) (Or.inl ⟨by rfl, ?hy16⟩) (by assumption) ?rest16
                      case hy16 => (intro w' hSw; (try dsimp only at hSw); (try unfold dxo12); go_simp; try with_reducible rfl)
                      (try simp only [Act.put, List.setIfInBounds_toArray, List.set_cons_zero, List.set_cons_succ])
                      refine wpAnyH_take (i := 13) (oi := dxo13) (v := ?_) rfl (by kernel_rfl) (by kernel_rfl) (by kernel_rfl) (fun _ _ _ h => h) (Or.inl ⟨by rfl, ?hy17⟩) (by assumption) ?rest17
                      case hy17 => (intro w' hSw; (try dsimp only at hSw); (try unfold dxo13); go_simp; try with_reducible rfl)
                      (try simp only [Act.put, List.setIfInBounds_toArray, List.set_cons_zero, List.set_cons_succ])
                      refine wpAnyH_ready (rs := [14]) (by kernel_rfl) (by simp) ?_
                      refine AllReadyH.cons (o := dxo14) rfl (fun K hK => ?_) AllReadyH.nil
                      obtain ⟨b', cp', hbe, hbw, hcl⟩ := HG38.out.form hm0
                      cases hbe
                      obtain ⟨⟨v0, hv0⟩, hf0⟩ := hcl (KI * 2) (by omega)
                      obtain ⟨⟨v1, hv1⟩, hf1⟩ := hcl (KI * 2 + 1) (by omega)
                      have GF := hide ((HG38.out.set hp HAB.out hbw (KI * 2) zA).set hp HAB.out hbw (KI * 2 + 1) zB)
                      clear hcl
                      (try unfold dxo14)
                      go_simp
                      refine hK.out _ ((wv37.setCell ⟨b, KI * 2, none⟩ (.int .i64 zA)).setCell ⟨b, KI * 2 + 1, none⟩ (.int .i64 zB)) trivial (fun hHeld => ?_)
                      clear hK K
                      (try simp only [Act.put, List.setIfInBounds_toArray, List.set_cons_zero, List.set_cons_succ])
                      refine wpAnyH_done (by kernel_rfl) ?_ _
                      go_wp2_with fail
                      go_meet
                      exact ⟨_, _, rfl, GF.out⟩
                    · obtain ⟨zB, hzB⟩ := TB41.out YB hYB
                      (try unfold dxo11)
                      go_simp
                      refine hK.out _ wv37 trivial (fun hHeld => ?_)
                      clear hK K
                      (try simp only [Act.put, List.setIfInBounds_toArray, List.set_cons_zero, List.set_cons_succ])
                      clear hzB
                      refine wpAnyH_ready (rs := [6]) (by kernel_rfl) (by simp) ?_
                      refine AllReadyH.cons (o := dxo6) rfl (fun K hK => ?_) AllReadyH.nil
                      obtain ⟨zA, hzA⟩ := TA40.out YA hYA
                      (try unfold dxo6)
                      go_simp
                      refine hK.out _ wv37 trivial (fun hHeld => ?_)
                      clear hK K
                      (try simp only [Act.put, List.setIfInBounds_toArray, List.set_cons_zero, List.set_cons_succ])
                      clear hzA
                      refine wpAnyH_take (i := 12) (oi := dxo12) (v := ?_) rfl (by kernel_rfl) (by kernel_rfl) (by kernel_rfl) (fun _ _ _ h => h) (Or.inl ⟨by rfl, ?hy18⟩) (by assumption) ?rest18
                      case hy18 => (intro w' hSw; (try dsimp only at hSw); (try unfold dxo12); go_simp; try with_reducible rfl)
                      (try simp only [Act.put, List.setIfInBounds_toArray, List.set_cons_zero, List.set_cons_succ])
                      refine wpAnyH_take (i := 13) (oi := dxo13) (v := ?_) rfl (by kernel_rfl) (by kernel_rfl) (by kernel_rfl) (fun _ _ _ h => h) (Or.inl ⟨by rfl, ?hy19⟩) (by assumption) ?rest19
                      case hy19 => (intro w' hSw; (try dsimp only at hSw); (try unfold dxo13); go_simp; try with_reducible rfl)
                      (try simp only [Act.put, List.setIfInBounds_toArray, List.set_cons_zero, List.set_cons_succ])
                      refine wpAnyH_ready (rs := [14]) (by kernel_rfl) (by simp) ?_
                      refine AllReadyH.cons (o := dxo14) rfl (fun K hK => ?_) AllReadyH.nil
                      obtain ⟨b', cp', hbe, hbw, hcl⟩ := HG38.out.form hm0
                      cases hbe
                      obtain ⟨⟨v0, hv0⟩, hf0⟩ := hcl (KI * 2) (by omega)
                      obtain ⟨⟨v1, hv1⟩, hf1⟩ := hcl (KI * 2 + 1) (by omega)
                      have GF := hide ((HG38.out.set hp HAB.out hbw (KI * 2) zA).set hp HAB.out hbw (KI * 2 + 1) zB)
                      clear hcl
                      (try unfold dxo14)
                      go_simp
                      refine hK.out _ ((wv37.setCell ⟨b, KI * 2, none⟩ (.int .i64 zA)).setCell ⟨b, KI * 2 + 1, none⟩ (.int .i64 zB)) trivial (fun hHeld => ?_)
                      clear hK K
                      (try simp only [Act.put, List.setIfInBounds_toArray, List.set_cons_zero, List.set_cons_succ])
                      refine wpAnyH_done (by kernel_rfl) ?_ _
                      go_wp2_with fail
                      go_meet
                      exact ⟨_, _, rfl, GF.out⟩
                · (try unfold dxo9)
                  go_simp
                  (with_reducible refine (c4 _ HG7.out.cur).mono ?_)
                  rintro e wv42 ⟨y, rfl, y0, y1, hc, hk44⟩
                  obtain ⟨YB, rfl⟩ : ∃ YB : Nat, y = YB := ⟨y.toNat, by omega⟩
                  have hYB : YB < 4 := by omega
                  have hYBi : (YB : Int) < 4 := by omega
                  have HG43 := hide (HG7.out.next hp hc hk44)
                  have TA45 : Hid (∀ Y, Y < 3 → ∃ z : Int, wv42.cell? ⟨X3, Y, none⟩ = some (.int .i64 z)) := fun Y h => (TA9.out Y h).imp fun z hz => hk44.cell (a := ⟨X3, Y, none⟩) hne5 hz
                  clear hc hk44 y0 y1
                  dsimp only
                  refine hK.out _ wv42 trivial (fun hHeld => ?_)
                  clear hK K
                  (try simp only [Act.put, List.setIfInBounds_toArray, List.set_cons_zero, List.set_cons_succ])
                  refine wpAnyH_ready (rs := [6, 7]) (by kernel_rfl) (by simp) ?_
                  refine AllReadyH.cons (o := dxo6) rfl (fun K hK => ?_) (AllReadyH.cons (o := dxo7) rfl (fun K hK => ?_) AllReadyH.nil)
                  · obtain ⟨zA, hzA⟩ := TA45.out YA hYA
                    (try unfold dxo6)
                    go_simp
                    refine hK.out _ wv42 trivial (fun hHeld => ?_)
                    clear hK K
                    (try simp only [Act.put, List.setIfInBounds_toArray, List.set_cons_zero, List.set_cons_succ])
                    clear hzA
                    refine wpAnyH_ready (rs := [7]) (by kernel_rfl) (by simp) ?_
                    refine AllReadyH.cons (o := dxo7) rfl (fun K hK => ?_) AllReadyH.nil
                    (try unfold dxo7)
                    go_simp
                    have HG47 := hide (HG43.out.next hp (HG43.out.cur.below (bnew wv42 (.cells #[.int .i64 (-1), .int .i64 0, .int .i64 1000000, .int .i64 1000001] 2))) (Kept.of_below (bnew wv42 (.cells #[.int .i64 (-1), .int .i64 0, .int .i64 1000000, .int .i64 1000001] 2))))
                    have TB49 : Hid (∀ Y, Y < 4 → ∃ z : Int, (wv42.alloc (.cells #[.int .i64 (-1), .int .i64 0, .int .i64 1000000, .int .i64 1000001] 2)).cell? ⟨wv42.heap.size, Y, none⟩ = some (.int .i64 z)) := fun Y h => lit4 (w := wv42) Y h
                    have hne50 : wv42.heap.size ≠ p := by have := HG43.out.kept.size; omega
                    refine hK.out _ (wv42.alloc (.cells #[.int .i64 (-1), .int .i64 0, .int .i64 1000000, .int .i64 1000001] 2)) trivial (fun hHeld => ?_)
                    clear hK K
                    (try simp only [Act.put, List.setIfInBounds_toArray, List.set_cons_zero, List.set_cons_succ])
                    generalize hgwv46 : wv42.alloc (.cells #[.int .i64 (-1), .int .i64 0, .int .i64 1000000, .int .i64 1000001] 2) = wv46 at *
                    clear hgwv46
                    generalize hqwv46 : wv42.heap.size = X48 at *
                    clear hqwv46
                    refine wpAnyH_take (i := 10) (oi := dxo10) (v := ?_) rfl (by kernel_rfl) (by kernel_rfl) (by kernel_rfl) (fun _ _ _ h => h) (Or.inl ⟨by rfl, ?hy20⟩) (by assumption) ?rest20
                    case hy20 => (intro w' hSw; (try dsimp only at hSw); (try unfold dxo10); go_simp; try with_reducible rfl)
                    (try simp only [Act.put, List.setIfInBounds_toArray, List.set_cons_zero, List.set_cons_succ])
                    refine wpAnyH_ready (rs := [11]) (by kernel_rfl) (by simp) ?_
                    refine AllReadyH.cons (o := dxo11) rfl (fun K hK => ?_) AllReadyH.nil
                    obtain ⟨zB, hzB⟩ := TB49.out YB hYB
                    (try unfold dxo11)
                    go_simp
                    refine hK.out _ wv46 trivial (fun hHeld => ?_)
                    clear hK K
                    (try simp only [Act.put, List.setIfInBounds_toArray, List.set_cons_zero, List.set_cons_succ])
                    clear hzB
                    refine wpAnyH_take (i := 12) (oi := dxo12) (v := ?_) rfl (by kernel_rfl) (by kernel_rfl) (by kernel_rfl) (fun _ _ _ h => h) (Or.inl ⟨by rfl, ?hy21⟩) (by assumption) ?rest21
                    case hy21 => (intro w' hSw; (try dsimp only at hSw); (try unfold dxo12); go_simp; try with_reducible rfl)
                    (try simp only [Act.put, List.setIfInBounds_toArray, List.set_cons_zero, List.set_cons_succ])
                    refine wpAnyH_take (i := 13) (oi := dxo13) (v := ?_) rfl (by kernel_rfl) (by kernel_rfl) (by kernel_rfl) (fun _ _ _ h => h) (Or.inl ⟨by rfl, ?hy22⟩) (by assumption) ?rest22
                    case hy22 => (intro w' hSw; (try dsimp only at hSw); (try unfold dxo13); go_simp; try with_reducible rfl)
                    (try simp only [Act.put, List.setIfInBounds_toArray, List.set_cons_zero, List.set_cons_succ])
                    refine wpAnyH_ready (rs := [14]) (by kernel_rfl) (by simp) ?_
                    refine AllReadyH.cons (o := dxo14) rfl (fun K hK => ?_) AllReadyH.nil
                    obtain ⟨b', cp', hbe, hbw, hcl⟩ := HG47.out.form hm0
                    cases hbe
                    obtain ⟨⟨v0, hv0⟩, hf0⟩ := hcl (KI * 2) (by omega)
                    obtain ⟨⟨v1, hv1⟩, hf1⟩ := hcl (KI * 2 + 1) (by omega)
                    have GF := hide ((HG47.out.set hp HAB.out hbw (KI * 2) zA).set hp HAB.out hbw (KI * 2 + 1) zB)
                    clear hcl
                    (try unfold dxo14)
                    go_simp
                    refine hK.out _ ((wv46.setCell ⟨b, KI * 2, none⟩ (.int .i64 zA)).setCell ⟨b, KI * 2 + 1, none⟩ (.int .i64 zB)) trivial (fun hHeld => ?_)
                    clear hK K
                    (try simp only [Act.put, List.setIfInBounds_toArray, List.set_cons_zero, List.set_cons_succ])
                    refine wpAnyH_done (by kernel_rfl) ?_ _
                    go_wp2_with fail
                    go_meet
                    exact ⟨_, _, rfl, GF.out⟩
                  · (try unfold dxo7)
                    go_simp
                    have HG52 := hide (HG43.out.next hp (HG43.out.cur.below (bnew wv42 (.cells #[.int .i64 (-1), .int .i64 0, .int .i64 1000000, .int .i64 1000001] 2))) (Kept.of_below (bnew wv42 (.cells #[.int .i64 (-1), .int .i64 0, .int .i64 1000000, .int .i64 1000001] 2))))
                    have TB54 : Hid (∀ Y, Y < 4 → ∃ z : Int, (wv42.alloc (.cells #[.int .i64 (-1), .int .i64 0, .int .i64 1000000, .int .i64 1000001] 2)).cell? ⟨wv42.heap.size, Y, none⟩ = some (.int .i64 z)) := fun Y h => lit4 (w := wv42) Y h
                    have hne55 : wv42.heap.size ≠ p := by have := HG43.out.kept.size; omega
                    have TA56 : Hid (∀ Y, Y < 3 → ∃ z : Int, (wv42.alloc (.cells #[.int .i64 (-1), .int .i64 0, .int .i64 1000000, .int .i64 1000001] 2)).cell? ⟨X3, Y, none⟩ = some (.int .i64 z)) := fun Y h => (TA45.out Y h).imp fun z hz => cell_up (bnew wv42 (.cells #[.int .i64 (-1), .int .i64 0, .int .i64 1000000, .int .i64 1000001] 2)) hz
                    refine hK.out _ (wv42.alloc (.cells #[.int .i64 (-1), .int .i64 0, .int .i64 1000000, .int .i64 1000001] 2)) trivial (fun hHeld => ?_)
                    clear hK K
                    (try simp only [Act.put, List.setIfInBounds_toArray, List.set_cons_zero, List.set_cons_succ])
                    generalize hgwv51 : wv42.alloc (.cells #[.int .i64 (-1), .int .i64 0, .int .i64 1000000, .int .i64 1000001] 2) = wv51 at *
                    clear hgwv51
                    generalize hqwv51 : wv42.heap.size = X53 at *
                    clear hqwv51
                    refine wpAnyH_take (i := 10) (oi := dxo10) (v := ?_) rfl (by kernel_rfl) (by kernel_rfl) (by kernel_rfl) (fun _ _ _ h => h) (Or.inl ⟨by rfl, ?hy23⟩) (by assumption) ?rest23
                    case hy23 => (intro w' hSw; (try dsimp only at hSw); (try unfold dxo10); go_simp; try with_reducible rfl)
                    (try simp only [Act.put, List.setIfInBounds_toArray, List.set_cons_zero, List.set_cons_succ])
                    refine wpAnyH_ready (rs := [6, 11]) (by kernel_rfl) (by simp) ?_
                    refine AllReadyH.cons (o := dxo6) rfl (fun K hK => ?_) (AllReadyH.cons (o := dxo11) rfl (fun K hK => ?_) AllReadyH.nil)
                    · obtain ⟨zA, hzA⟩ := TA56.out YA hYA
                      (try unfold dxo6)
                      go_simp
                      refine hK.out _ wv51 trivial (fun hHeld => ?_)
                      clear hK K
                      (try simp only [Act.put, List.setIfInBounds_toArray, List.set_cons_zero, List.set_cons_succ])
                      clear hzA
                      refine wpAnyH_ready (rs := [11]) (by kernel_rfl) (by simp) ?_
                      refine AllReadyH.cons (o := dxo11) rfl (fun K hK => ?_) AllReadyH.nil
                      obtain ⟨zB, hzB⟩ := TB54.out YB hYB
                      (try unfold dxo11)
                      go_simp
                      refine hK.out _ wv51 trivial (fun hHeld => ?_)
                      clear hK K
                      (try simp only [Act.put, List.setIfInBounds_toArray, List.set_cons_zero, List.set_cons_succ])
                      clear hzB
                      refine wpAnyH_take (i := 12) (oi := dxo12) (v := ?_) rfl (by kernel_rfl) (by kernel_rfl) (by kernel_rfl) (fun _ _ _ h => h) (Or.inl ⟨by rfl, ?hy24⟩) (by assumption) ?rest24
                      case hy24 => (intro w' hSw; (try dsimp only at hSw); (try unfold dxo12); go_simp; try with_reducible rfl)
                      (try simp only [Act.put, List.setIfInBounds_toArray, List.set_cons_zero, List.set_cons_succ])
                      refine wpAnyH_take (i := 13) (oi := dxo13) (v := ?_) rfl (by kernel_rfl) (by kernel_rfl) (by kernel_rfl) (fun _ _ _ h => h) (Or.inl ⟨by rfl, ?hy25⟩) (by assumption) ?rest25
                      case hy25 => (intro w' hSw; (try dsimp only at hSw); (try unfold dxo13); go_simp; try with_reducible rfl)
                      (try simp only [Act.put, List.setIfInBounds_toArray, List.set_cons_zero, List.set_cons_succ])
                      refine wpAnyH_ready (rs := [14]) (by kernel_rfl) (by simp) ?_
                      refine AllReadyH.cons (o := dxo14) rfl (fun K hK => ?_) AllReadyH.nil
                      obtain ⟨b', cp', hbe, hbw, hcl⟩ := HG52.out.form hm0
                      cases hbe
                      obtain ⟨⟨v0, hv0⟩, hf0⟩ := hcl (KI * 2) (by omega)
                      obtain ⟨⟨v1, hv1⟩, hf1⟩ := hcl (KI * 2 + 1) (by omega)
                      have GF := hide ((HG52.out.set hp HAB.out hbw (KI * 2) zA).set hp HAB.out hbw (KI * 2 + 1) zB)
                      clear hcl
                      (try unfold dxo14)
                      go_simp
                      refine hK.out _ ((wv51.setCell ⟨b, KI * 2, none⟩ (.int .i64 zA)).setCell ⟨b, KI * 2 + 1, none⟩ (.int .i64 zB)) trivial (fun hHeld => ?_)
                      clear hK K
                      (try simp only [Act.put, List.setIfInBounds_toArray, List.set_cons_zero, List.set_cons_succ])
                      refine wpAnyH_done (by kernel_rfl) ?_ _
                      go_wp2_with fail
                      go_meet
                      exact ⟨_, _, rfl, GF.out⟩
                    · obtain ⟨zB, hzB⟩ := TB54.out YB hYB
                      (try unfold dxo11)
                      go_simp
                      refine hK.out _ wv51 trivial (fun hHeld => ?_)
                      clear hK K
                      (try simp only [Act.put, List.setIfInBounds_toArray, List.set_cons_zero, List.set_cons_succ])
                      clear hzB
                      refine wpAnyH_ready (rs := [6]) (by kernel_rfl) (by simp) ?_
                      refine AllReadyH.cons (o := dxo6) rfl (fun K hK => ?_) AllReadyH.nil
                      obtain ⟨zA, hzA⟩ := TA56.out YA hYA
                      (try unfold dxo6)
                      go_simp
                      refine hK.out _ wv51 trivial (fun hHeld => ?_)
                      clear hK K
                      (try simp only [Act.put, List.setIfInBounds_toArray, List.set_cons_zero, List.set_cons_succ])
                      clear hzA
                      refine wpAnyH_take (i := 12) (oi := dxo12) (v := ?_) rfl (by kernel_rfl) (by kernel_rfl) (by kernel_rfl) (fun _ _ _ h => h) (Or.inl ⟨by rfl, ?hy26⟩) (by assumption) ?rest26
                      case hy26 => (intro w' hSw; (try dsimp only at hSw); (try unfold dxo12); go_simp; try with_reducible rfl)
                      (try simp only [Act.put, List.setIfInBounds_toArray, List.set_cons_zero, List.set_cons_succ])
                      refine wpAnyH_take (i := 13) (oi := dxo13) (v := ?_) rfl (by kernel_rfl) (by kernel_rfl) (by kernel_rfl) (fun _ _ _ h => h) (Or.inl ⟨by rfl, ?hy27⟩) (by assumption) ?rest27
                      case hy27 => (intro w' hSw; (try dsimp only at hSw); (try unfold dxo13); go_simp; try with_reducible rfl)
                      (try simp only [Act.put, List.setIfInBounds_toArray, List.set_cons_zero, List.set_cons_succ])
                      refine wpAnyH_ready (rs := [14]) (by kernel_rfl) (by simp) ?_
                      refine AllReadyH.cons (o := dxo14) rfl (fun K hK => ?_) AllReadyH.nil
                      obtain ⟨b', cp', hbe, hbw, hcl⟩ := HG52.out.form hm0
                      cases hbe
                      obtain ⟨⟨v0, hv0⟩, hf0⟩ := hcl (KI * 2) (by omega)
                      obtain ⟨⟨v1, hv1⟩, hf1⟩ := hcl (KI * 2 + 1) (by omega)
                      have GF := hide ((HG52.out.set hp HAB.out hbw (KI * 2) zA).set hp HAB.out hbw (KI * 2 + 1) zB)
                      clear hcl
                      (try unfold dxo14)
                      go_simp
                      refine hK.out _ ((wv51.setCell ⟨b, KI * 2, none⟩ (.int .i64 zA)).setCell ⟨b, KI * 2 + 1, none⟩ (.int .i64 zB)) trivial (fun hHeld => ?_)
                      clear hK K
                      (try simp only [Act.put, List.setIfInBounds_toArray, List.set_cons_zero, List.set_cons_succ])
                      refine wpAnyH_done (by kernel_rfl) ?_ _
                      go_wp2_with fail
                      go_meet
                      exact ⟨_, _, rfl, GF.out⟩
              · (try unfold dxo7)
                go_simp
                have HG58 := hide (HG2.out.next hp (HG2.out.cur.below (bnew wv1 (.cells #[.int .i64 (-1), .int .i64 0, .int .i64 1000000, .int .i64 1000001] 2))) (Kept.of_below (bnew wv1 (.cells #[.int .i64 (-1), .int .i64 0, .int .i64 1000000, .int .i64 1000001] 2))))
                have TB60 : Hid (∀ Y, Y < 4 → ∃ z : Int, (wv1.alloc (.cells #[.int .i64 (-1), .int .i64 0, .int .i64 1000000, .int .i64 1000001] 2)).cell? ⟨wv1.heap.size, Y, none⟩ = some (.int .i64 z)) := fun Y h => lit4 (w := wv1) Y h
                have hne61 : wv1.heap.size ≠ p := by have := HG2.out.kept.size; omega
                have TA62 : Hid (∀ Y, Y < 3 → ∃ z : Int, (wv1.alloc (.cells #[.int .i64 (-1), .int .i64 0, .int .i64 1000000, .int .i64 1000001] 2)).cell? ⟨X3, Y, none⟩ = some (.int .i64 z)) := fun Y h => (TA4.out Y h).imp fun z hz => cell_up (bnew wv1 (.cells #[.int .i64 (-1), .int .i64 0, .int .i64 1000000, .int .i64 1000001] 2)) hz
                refine hK.out _ (wv1.alloc (.cells #[.int .i64 (-1), .int .i64 0, .int .i64 1000000, .int .i64 1000001] 2)) trivial (fun hHeld => ?_)
                clear hK K
                (try simp only [Act.put, List.setIfInBounds_toArray, List.set_cons_zero, List.set_cons_succ])
                generalize hgwv57 : wv1.alloc (.cells #[.int .i64 (-1), .int .i64 0, .int .i64 1000000, .int .i64 1000001] 2) = wv57 at *
                clear hgwv57
                generalize hqwv57 : wv1.heap.size = X59 at *
                clear hqwv57
                refine wpAnyH_ready (rs := [4]) (by kernel_rfl) (by simp) ?_
                refine AllReadyH.cons (o := dxo4) rfl (fun K hK => ?_) AllReadyH.nil
                (try unfold dxo4)
                go_simp
                (with_reducible refine (c3 _ HG58.out.cur).mono ?_)
                rintro e wv63 ⟨y, rfl, y0, y1, hc, hk65⟩
                obtain ⟨YA, rfl⟩ : ∃ YA : Nat, y = YA := ⟨y.toNat, by omega⟩
                have hYA : YA < 3 := by omega
                have hYAi : (YA : Int) < 3 := by omega
                have HG64 := hide (HG58.out.next hp hc hk65)
                have TA66 : Hid (∀ Y, Y < 3 → ∃ z : Int, wv63.cell? ⟨X3, Y, none⟩ = some (.int .i64 z)) := fun Y h => (TA62.out Y h).imp fun z hz => hk65.cell (a := ⟨X3, Y, none⟩) hne5 hz
                have TB67 : Hid (∀ Y, Y < 4 → ∃ z : Int, wv63.cell? ⟨X59, Y, none⟩ = some (.int .i64 z)) := fun Y h => (TB60.out Y h).imp fun z hz => hk65.cell (a := ⟨X59, Y, none⟩) hne61 hz
                clear hc hk65 y0 y1
                dsimp only
                refine hK.out _ wv63 trivial (fun hHeld => ?_)
                clear hK K
                (try simp only [Act.put, List.setIfInBounds_toArray, List.set_cons_zero, List.set_cons_succ])
                refine wpAnyH_take (i := 5) (oi := dxo5) (v := ?_) rfl (by kernel_rfl) (by kernel_rfl) (by kernel_rfl) (fun _ _ _ h => h) (Or.inl ⟨by rfl, ?hy28⟩) (by assumption) ?rest28
                case hy28 => (intro w' hSw; (try dsimp only at hSw); (try unfold dxo5); go_simp; try with_reducible rfl)
                (try simp only [Act.put, List.setIfInBounds_toArray, List.set_cons_zero, List.set_cons_succ])
                refine wpAnyH_ready (rs := [6, 9]) (by kernel_rfl) (by simp) ?_
                refine AllReadyH.cons (o := dxo6) rfl (fun K hK => ?_) (AllReadyH.cons (o := dxo9) rfl (fun K hK => ?_) AllReadyH.nil)
                · obtain ⟨zA, hzA⟩ := TA66.out YA hYA
                  (try unfold dxo6)
                  go_simp
                  refine hK.out _ wv63 trivial (fun hHeld => ?_)
                  clear hK K
                  (try simp only [Act.put, List.setIfInBounds_toArray, List.set_cons_zero, List.set_cons_succ])
                  clear hzA
                  refine wpAnyH_ready (rs := [9]) (by kernel_rfl) (by simp) ?_
                  refine AllReadyH.cons (o := dxo9) rfl (fun K hK => ?_) AllReadyH.nil
                  (try unfold dxo9)
                  go_simp
                  (with_reducible refine (c4 _ HG64.out.cur).mono ?_)
                  rintro e wv68 ⟨y, rfl, y0, y1, hc, hk70⟩
                  obtain ⟨YB, rfl⟩ : ∃ YB : Nat, y = YB := ⟨y.toNat, by omega⟩
                  have hYB : YB < 4 := by omega
                  have hYBi : (YB : Int) < 4 := by omega
                  have HG69 := hide (HG64.out.next hp hc hk70)
                  have TB71 : Hid (∀ Y, Y < 4 → ∃ z : Int, wv68.cell? ⟨X59, Y, none⟩ = some (.int .i64 z)) := fun Y h => (TB67.out Y h).imp fun z hz => hk70.cell (a := ⟨X59, Y, none⟩) hne61 hz
                  clear hc hk70 y0 y1
                  dsimp only
                  refine hK.out _ wv68 trivial (fun hHeld => ?_)
                  clear hK K
                  (try simp only [Act.put, List.setIfInBounds_toArray, List.set_cons_zero, List.set_cons_succ])
                  refine wpAnyH_take (i := 10) (oi := dxo10) (v := ?_) rfl (by kernel_rfl) (by kernel_rfl) (by kernel_rfl) (fun _ _ _ h => h) (Or.inl ⟨by rfl, ?hy29⟩) (by assumption) ?rest29
                  case hy29 => (intro w' hSw; (try dsimp only at hSw); (try unfold dxo10); go_simp; try with_reducible rfl)
                  (try simp only [Act.put, List.setIfInBounds_toArray, List.set_cons_zero, List.set_cons_succ])
                  refine wpAnyH_ready (rs := [11]) (by kernel_rfl) (by simp) ?_
                  refine AllReadyH.cons (o := dxo11) rfl (fun K hK => ?_) AllReadyH.nil
                  obtain ⟨zB, hzB⟩ := TB71.out YB hYB
                  (try unfold dxo11)
                  go_simp
                  refine hK.out _ wv68 trivial (fun hHeld => ?_)
                  clear hK K
                  (try simp only [Act.put, List.setIfInBounds_toArray, List.set_cons_zero, List.set_cons_succ])
                  clear hzB
                  refine wpAnyH_take (i := 12) (oi := dxo12) (v := ?_) rfl (by kernel_rfl) (by kernel_rfl) (by kernel_rfl) (fun _ _ _ h => h) (Or.inl ⟨by rfl, ?hy30⟩) (by assumption) ?rest30
                  case hy30 => (intro w' hSw; (try dsimp only at hSw); (try unfold dxo12); go_simp; try with_reducible rfl)
                  (try simp only [Act.put, List.setIfInBounds_toArray, List.set_cons_zero, List.set_cons_succ])
                  refine wpAnyH_take (i := 13) (oi := dxo13) (v := ?_) rfl (by kernel_rfl) (by kernel_rfl) (by kernel_rfl) (fun _ _ _ h => h) (Or.inl ⟨by rfl, ?hy31⟩) (by assumption) ?rest31
                  case hy31 => (intro w' hSw; (try dsimp only at hSw); (try unfold dxo13); go_simp; try with_reducible rfl)
                  (try simp only [Act.put, List.setIfInBounds_toArray, List.set_cons_zero, List.set_cons_succ])
                  refine wpAnyH_ready (rs := [14]) (by kernel_rfl) (by simp) ?_
                  refine AllReadyH.cons (o := dxo14) rfl (fun K hK => ?_) AllReadyH.nil
                  obtain ⟨b', cp', hbe, hbw, hcl⟩ := HG69.out.form hm0
                  cases hbe
                  obtain ⟨⟨v0, hv0⟩, hf0⟩ := hcl (KI * 2) (by omega)
                  obtain ⟨⟨v1, hv1⟩, hf1⟩ := hcl (KI * 2 + 1) (by omega)
                  have GF := hide ((HG69.out.set hp HAB.out hbw (KI * 2) zA).set hp HAB.out hbw (KI * 2 + 1) zB)
                  clear hcl
                  (try unfold dxo14)
                  go_simp
                  refine hK.out _ ((wv68.setCell ⟨b, KI * 2, none⟩ (.int .i64 zA)).setCell ⟨b, KI * 2 + 1, none⟩ (.int .i64 zB)) trivial (fun hHeld => ?_)
                  clear hK K
                  (try simp only [Act.put, List.setIfInBounds_toArray, List.set_cons_zero, List.set_cons_succ])
                  refine wpAnyH_done (by kernel_rfl) ?_ _
                  go_wp2_with fail
                  go_meet
                  exact ⟨_, _, rfl, GF.out⟩
                · (try unfold dxo9)
                  go_simp
                  (with_reducible refine (c4 _ HG64.out.cur).mono ?_)
                  rintro e wv72 ⟨y, rfl, y0, y1, hc, hk74⟩
                  obtain ⟨YB, rfl⟩ : ∃ YB : Nat, y = YB := ⟨y.toNat, by omega⟩
                  have hYB : YB < 4 := by omega
                  have hYBi : (YB : Int) < 4 := by omega
                  have HG73 := hide (HG64.out.next hp hc hk74)
                  have TA75 : Hid (∀ Y, Y < 3 → ∃ z : Int, wv72.cell? ⟨X3, Y, none⟩ = some (.int .i64 z)) := fun Y h => (TA66.out Y h).imp fun z hz => hk74.cell (a := ⟨X3, Y, none⟩) hne5 hz
                  have TB76 : Hid (∀ Y, Y < 4 → ∃ z : Int, wv72.cell? ⟨X59, Y, none⟩ = some (.int .i64 z)) := fun Y h => (TB67.out Y h).imp fun z hz => hk74.cell (a := ⟨X59, Y, none⟩) hne61 hz
                  clear hc hk74 y0 y1
                  dsimp only
                  refine hK.out _ wv72 trivial (fun hHeld => ?_)
                  clear hK K
                  (try simp only [Act.put, List.setIfInBounds_toArray, List.set_cons_zero, List.set_cons_succ])
                  refine wpAnyH_take (i := 10) (oi := dxo10) (v := ?_) rfl (by kernel_rfl) (by kernel_rfl) (by kernel_rfl) (fun _ _ _ h => h) (Or.inl ⟨by rfl, ?hy32⟩) (by assumption) ?rest32
                  case hy32 => (intro w' hSw; (try dsimp only at hSw); (try unfold dxo10); go_simp; try with_reducible rfl)
                  (try simp only [Act.put, List.setIfInBounds_toArray, List.set_cons_zero, List.set_cons_succ])
                  refine wpAnyH_ready (rs := [6, 11]) (by kernel_rfl) (by simp) ?_
                  refine AllReadyH.cons (o := dxo6) rfl (fun K hK => ?_) (AllReadyH.cons (o := dxo11) rfl (fun K hK => ?_) AllReadyH.nil)
                  · obtain ⟨zA, hzA⟩ := TA75.out YA hYA
                    (try unfold dxo6)
                    go_simp
                    refine hK.out _ wv72 trivial (fun hHeld => ?_)
                    clear hK K
                    (try simp only [Act.put, List.setIfInBounds_toArray, List.set_cons_zero, List.set_cons_succ])
                    clear hzA
                    refine wpAnyH_ready (rs := [11]) (by kernel_rfl) (by simp) ?_
                    refine AllReadyH.cons (o := dxo11) rfl (fun K hK => ?_) AllReadyH.nil
                    obtain ⟨zB, hzB⟩ := TB76.out YB hYB
                    (try unfold dxo11)
                    go_simp
                    refine hK.out _ wv72 trivial (fun hHeld => ?_)
                    clear hK K
                    (try simp only [Act.put, List.setIfInBounds_toArray, List.set_cons_zero, List.set_cons_succ])
                    clear hzB
                    refine wpAnyH_take (i := 12) (oi := dxo12) (v := ?_) rfl (by kernel_rfl) (by kernel_rfl) (by kernel_rfl) (fun _ _ _ h => h) (Or.inl ⟨by rfl, ?hy33⟩) (by assumption) ?rest33
                    case hy33 => (intro w' hSw; (try dsimp only at hSw); (try unfold dxo12); go_simp; try with_reducible rfl)
                    (try simp only [Act.put, List.setIfInBounds_toArray, List.set_cons_zero, List.set_cons_succ])
                    refine wpAnyH_take (i := 13) (oi := dxo13) (v := ?_) rfl (by kernel_rfl) (by kernel_rfl) (by kernel_rfl) (fun _ _ _ h => h) (Or.inl ⟨by rfl, ?hy34⟩) (by assumption) ?rest34
                    case hy34 => (intro w' hSw; (try dsimp only at hSw); (try unfold dxo13); go_simp; try with_reducible rfl)
                    (try simp only [Act.put, List.setIfInBounds_toArray, List.set_cons_zero, List.set_cons_succ])
                    refine wpAnyH_ready (rs := [14]) (by kernel_rfl) (by simp) ?_
                    refine AllReadyH.cons (o := dxo14) rfl (fun K hK => ?_) AllReadyH.nil
                    obtain ⟨b', cp', hbe, hbw, hcl⟩ := HG73.out.form hm0
                    cases hbe
                    obtain ⟨⟨v0, hv0⟩, hf0⟩ := hcl (KI * 2) (by omega)
                    obtain ⟨⟨v1, hv1⟩, hf1⟩ := hcl (KI * 2 + 1) (by omega)
                    have GF := hide ((HG73.out.set hp HAB.out hbw (KI * 2) zA).set hp HAB.out hbw (KI * 2 + 1) zB)
                    clear hcl
                    (try unfold dxo14)
                    go_simp
                    refine hK.out _ ((wv72.setCell ⟨b, KI * 2, none⟩ (.int .i64 zA)).setCell ⟨b, KI * 2 + 1, none⟩ (.int .i64 zB)) trivial (fun hHeld => ?_)
                    clear hK K
                    (try simp only [Act.put, List.setIfInBounds_toArray, List.set_cons_zero, List.set_cons_succ])
                    refine wpAnyH_done (by kernel_rfl) ?_ _
                    go_wp2_with fail
                    go_meet
                    exact ⟨_, _, rfl, GF.out⟩
                  · obtain ⟨zB, hzB⟩ := TB76.out YB hYB
                    (try unfold dxo11)
                    go_simp
                    refine hK.out _ wv72 trivial (fun hHeld => ?_)
                    clear hK K
                    (try simp only [Act.put, List.setIfInBounds_toArray, List.set_cons_zero, List.set_cons_succ])
                    clear hzB
                    refine wpAnyH_ready (rs := [6]) (by kernel_rfl) (by simp) ?_
                    refine AllReadyH.cons (o := dxo6) rfl (fun K hK => ?_) AllReadyH.nil
                    obtain ⟨zA, hzA⟩ := TA75.out YA hYA
                    (try unfold dxo6)
                    go_simp
                    refine hK.out _ wv72 trivial (fun hHeld => ?_)
                    clear hK K
                    (try simp only [Act.put, List.setIfInBounds_toArray, List.set_cons_zero, List.set_cons_succ])
                    clear hzA
                    refine wpAnyH_take (i := 12) (oi := dxo12) (v := ?_) rfl (by kernel_rfl) (by kernel_rfl) (by kernel_rfl) (fun _ _ _ h => h) (Or.inl ⟨by rfl, ?hy35⟩) (by assumption) ?rest35
                    case hy35 => (intro w' hSw; (try dsimp only at hSw); (try unfold dxo12); go_simp; try with_reducible rfl)
                    (try simp only [Act.put, List.setIfInBounds_toArray, List.set_cons_zero, List.set_cons_succ])
                    refine wpAnyH_take (i := 13) (oi := dxo13) (v := ?_) rfl (by kernel_rfl) (by kernel_rfl) (by kernel_rfl) (fun _ _ _ h => h) (Or.inl ⟨by rfl, ?hy36⟩) (by assumption) ?rest36
                    case hy36 => (intro w' hSw; (try dsimp only at hSw); (try unfold dxo13); go_simp; try with_reducible rfl)
                    (try simp only [Act.put, List.setIfInBounds_toArray, List.set_cons_zero, List.set_cons_succ])
                    refine wpAnyH_ready (rs := [14]) (by kernel_rfl) (by simp) ?_
                    refine AllReadyH.cons (o := dxo14) rfl (fun K hK => ?_) AllReadyH.nil
                    obtain ⟨b', cp', hbe, hbw, hcl⟩ := HG73.out.form hm0
                    cases hbe
                    obtain ⟨⟨v0, hv0⟩, hf0⟩ := hcl (KI * 2) (by omega)
                    obtain ⟨⟨v1, hv1⟩, hf1⟩ := hcl (KI * 2 + 1) (by omega)
                    have GF := hide ((HG73.out.set hp HAB.out hbw (KI * 2) zA).set hp HAB.out hbw (KI * 2 + 1) zB)
                    clear hcl
                    (try unfold dxo14)
                    go_simp
                    refine hK.out _ ((wv72.setCell ⟨b, KI * 2, none⟩ (.int .i64 zA)).setCell ⟨b, KI * 2 + 1, none⟩ (.int .i64 zB)) trivial (fun hHeld => ?_)
                    clear hK K
                    (try simp only [Act.put, List.setIfInBounds_toArray, List.set_cons_zero, List.set_cons_succ])
                    refine wpAnyH_done (by kernel_rfl) ?_ _
                    go_wp2_with fail
                    go_meet
                    exact ⟨_, _, rfl, GF.out⟩
            · (try unfold dxo4)
              go_simp
              (with_reducible refine (c3 _ HG0.out.cur).mono ?_)
              rintro e wv77 ⟨y, rfl, y0, y1, hc, hk79⟩
              obtain ⟨YA, rfl⟩ : ∃ YA : Nat, y = YA := ⟨y.toNat, by omega⟩
              have hYA : YA < 3 := by omega
              have hYAi : (YA : Int) < 3 := by omega
              have HG78 := hide (HG0.out.next hp hc hk79)
              clear hc hk79 y0 y1
              dsimp only
              refine hK.out _ wv77 trivial (fun hHeld => ?_)
              clear hK K
              (try simp only [Act.put, List.setIfInBounds_toArray, List.set_cons_zero, List.set_cons_succ])
              refine wpAnyH_ready (rs := [2, 7, 9]) (by kernel_rfl) (by simp) ?_
              refine AllReadyH.cons (o := dxo2) rfl (fun K hK => ?_) (AllReadyH.cons (o := dxo7) rfl (fun K hK => ?_) (AllReadyH.cons (o := dxo9) rfl (fun K hK => ?_) AllReadyH.nil))
              · (try unfold dxo2)
                go_simp
                have HG81 := hide (HG78.out.next hp (HG78.out.cur.below (bnew wv77 (.cells #[.int .i64 (-1), .int .i64 31, .int .i64 32] 2))) (Kept.of_below (bnew wv77 (.cells #[.int .i64 (-1), .int .i64 31, .int .i64 32] 2))))
                have TA83 : Hid (∀ Y, Y < 3 → ∃ z : Int, (wv77.alloc (.cells #[.int .i64 (-1), .int .i64 31, .int .i64 32] 2)).cell? ⟨wv77.heap.size, Y, none⟩ = some (.int .i64 z)) := fun Y h => lit3 (w := wv77) Y h
                have hne84 : wv77.heap.size ≠ p := by have := HG78.out.kept.size; omega
                refine hK.out _ (wv77.alloc (.cells #[.int .i64 (-1), .int .i64 31, .int .i64 32] 2)) trivial (fun hHeld => ?_)
                clear hK K
                (try simp only [Act.put, List.setIfInBounds_toArray, List.set_cons_zero, List.set_cons_succ])
                generalize hgwv80 : wv77.alloc (.cells #[.int .i64 (-1), .int .i64 31, .int .i64 32] 2) = wv80 at *
                clear hgwv80
                generalize hqwv80 : wv77.heap.size = X82 at *
                clear hqwv80
                refine wpAnyH_take (i := 5) (oi := dxo5) (v := ?_) rfl (by kernel_rfl) (by kernel_rfl) (by kernel_rfl) (fun _ _ _ h => h) (Or.inl ⟨by rfl, ?hy37⟩) (by assumption) ?rest37
                case hy37 => (intro w' hSw; (try dsimp only at hSw); (try unfold dxo5); go_simp; try with_reducible rfl)
                (try simp only [Act.put, List.setIfInBounds_toArray, List.set_cons_zero, List.set_cons_succ])
                refine wpAnyH_ready (rs := [6, 7, 9]) (by kernel_rfl) (by simp) ?_
                refine AllReadyH.cons (o := dxo6) rfl (fun K hK => ?_) (AllReadyH.cons (o := dxo7) rfl (fun K hK => ?_) (AllReadyH.cons (o := dxo9) rfl (fun K hK => ?_) AllReadyH.nil))
                · obtain ⟨zA, hzA⟩ := TA83.out YA hYA
                  (try unfold dxo6)
                  go_simp
                  refine hK.out _ wv80 trivial (fun hHeld => ?_)
                  clear hK K
                  (try simp only [Act.put, List.setIfInBounds_toArray, List.set_cons_zero, List.set_cons_succ])
                  clear hzA
                  refine wpAnyH_ready (rs := [7, 9]) (by kernel_rfl) (by simp) ?_
                  refine AllReadyH.cons (o := dxo7) rfl (fun K hK => ?_) (AllReadyH.cons (o := dxo9) rfl (fun K hK => ?_) AllReadyH.nil)
                  · (try unfold dxo7)
                    go_simp
                    have HG86 := hide (HG81.out.next hp (HG81.out.cur.below (bnew wv80 (.cells #[.int .i64 (-1), .int .i64 0, .int .i64 1000000, .int .i64 1000001] 2))) (Kept.of_below (bnew wv80 (.cells #[.int .i64 (-1), .int .i64 0, .int .i64 1000000, .int .i64 1000001] 2))))
                    have TB88 : Hid (∀ Y, Y < 4 → ∃ z : Int, (wv80.alloc (.cells #[.int .i64 (-1), .int .i64 0, .int .i64 1000000, .int .i64 1000001] 2)).cell? ⟨wv80.heap.size, Y, none⟩ = some (.int .i64 z)) := fun Y h => lit4 (w := wv80) Y h
                    have hne89 : wv80.heap.size ≠ p := by have := HG81.out.kept.size; omega
                    refine hK.out _ (wv80.alloc (.cells #[.int .i64 (-1), .int .i64 0, .int .i64 1000000, .int .i64 1000001] 2)) trivial (fun hHeld => ?_)
                    clear hK K
                    (try simp only [Act.put, List.setIfInBounds_toArray, List.set_cons_zero, List.set_cons_succ])
                    generalize hgwv85 : wv80.alloc (.cells #[.int .i64 (-1), .int .i64 0, .int .i64 1000000, .int .i64 1000001] 2) = wv85 at *
                    clear hgwv85
                    generalize hqwv85 : wv80.heap.size = X87 at *
                    clear hqwv85
                    refine wpAnyH_ready (rs := [9]) (by kernel_rfl) (by simp) ?_
                    refine AllReadyH.cons (o := dxo9) rfl (fun K hK => ?_) AllReadyH.nil
                    (try unfold dxo9)
                    go_simp
                    (with_reducible refine (c4 _ HG86.out.cur).mono ?_)
                    rintro e wv90 ⟨y, rfl, y0, y1, hc, hk92⟩
                    obtain ⟨YB, rfl⟩ : ∃ YB : Nat, y = YB := ⟨y.toNat, by omega⟩
                    have hYB : YB < 4 := by omega
                    have hYBi : (YB : Int) < 4 := by omega
                    have HG91 := hide (HG86.out.next hp hc hk92)
                    have TB93 : Hid (∀ Y, Y < 4 → ∃ z : Int, wv90.cell? ⟨X87, Y, none⟩ = some (.int .i64 z)) := fun Y h => (TB88.out Y h).imp fun z hz => hk92.cell (a := ⟨X87, Y, none⟩) hne89 hz
                    clear hc hk92 y0 y1
                    dsimp only
                    refine hK.out _ wv90 trivial (fun hHeld => ?_)
                    clear hK K
                    (try simp only [Act.put, List.setIfInBounds_toArray, List.set_cons_zero, List.set_cons_succ])
                    refine wpAnyH_take (i := 10) (oi := dxo10) (v := ?_) rfl (by kernel_rfl) (by kernel_rfl) (by kernel_rfl) (fun _ _ _ h => h) (Or.inl ⟨by rfl, ?hy38⟩) (by assumption) ?rest38
                    case hy38 => (intro w' hSw; (try dsimp only at hSw); (try unfold dxo10); go_simp; try with_reducible rfl)
                    (try simp only [Act.put, List.setIfInBounds_toArray, List.set_cons_zero, List.set_cons_succ])
                    refine wpAnyH_ready (rs := [11]) (by kernel_rfl) (by simp) ?_
                    refine AllReadyH.cons (o := dxo11) rfl (fun K hK => ?_) AllReadyH.nil
                    obtain ⟨zB, hzB⟩ := TB93.out YB hYB
                    (try unfold dxo11)
                    go_simp
                    refine hK.out _ wv90 trivial (fun hHeld => ?_)
                    clear hK K
                    (try simp only [Act.put, List.setIfInBounds_toArray, List.set_cons_zero, List.set_cons_succ])
                    clear hzB
                    refine wpAnyH_take (i := 12) (oi := dxo12) (v := ?_) rfl (by kernel_rfl) (by kernel_rfl) (by kernel_rfl) (fun _ _ _ h => h) (Or.inl ⟨by rfl, ?hy39⟩) (by assumption) ?rest39
                    case hy39 => (intro w' hSw; (try dsimp only at hSw); (try unfold dxo12); go_simp; try with_reducible rfl)
                    (try simp only [Act.put, List.setIfInBounds_toArray, List.set_cons_zero, List.set_cons_succ])
                    refine wpAnyH_take (i := 13) (oi := dxo13) (v := ?_) rfl (by kernel_rfl) (by kernel_rfl) (by kernel_rfl) (fun _ _ _ h => h) (Or.inl ⟨by rfl, ?hy40⟩) (by assumption) ?rest40
                    case hy40 => (intro w' hSw; (try dsimp only at hSw); (try unfold dxo13); go_simp; try with_reducible rfl)
                    (try simp only [Act.put, List.setIfInBounds_toArray, List.set_cons_zero, List.set_cons_succ])
                    refine wpAnyH_ready (rs := [14]) (by kernel_rfl) (by simp) ?_
                    refine AllReadyH.cons (o := dxo14) rfl (fun K hK => ?_) AllReadyH.nil
                    obtain ⟨b', cp', hbe, hbw, hcl⟩ := HG91.out.form hm0
                    cases hbe
                    obtain ⟨⟨v0, hv0⟩, hf0⟩ := hcl (KI * 2) (by omega)
                    obtain ⟨⟨v1, hv1⟩, hf1⟩ := hcl (KI * 2 + 1) (by omega)
                    have GF := hide ((HG91.out.set hp HAB.out hbw (KI * 2) zA).set hp HAB.out hbw (KI * 2 + 1) zB)
                    clear hcl
                    (try unfold dxo14)
                    go_simp
                    refine hK.out _ ((wv90.setCell ⟨b, KI * 2, none⟩ (.int .i64 zA)).setCell ⟨b, KI * 2 + 1, none⟩ (.int .i64 zB)) trivial (fun hHeld => ?_)
                    clear hK K
                    (try simp only [Act.put, List.setIfInBounds_toArray, List.set_cons_zero, List.set_cons_succ])
                    refine wpAnyH_done (by kernel_rfl) ?_ _
                    go_wp2_with fail
                    go_meet
                    exact ⟨_, _, rfl, GF.out⟩
                  · (try unfold dxo9)
                    go_simp
                    (with_reducible refine (c4 _ HG81.out.cur).mono ?_)
                    rintro e wv94 ⟨y, rfl, y0, y1, hc, hk96⟩
                    obtain ⟨YB, rfl⟩ : ∃ YB : Nat, y = YB := ⟨y.toNat, by omega⟩
                    have hYB : YB < 4 := by omega
                    have hYBi : (YB : Int) < 4 := by omega
                    have HG95 := hide (HG81.out.next hp hc hk96)
                    clear hc hk96 y0 y1
                    dsimp only
                    refine hK.out _ wv94 trivial (fun hHeld => ?_)
                    clear hK K
                    (try simp only [Act.put, List.setIfInBounds_toArray, List.set_cons_zero, List.set_cons_succ])
                    refine wpAnyH_ready (rs := [7]) (by kernel_rfl) (by simp) ?_
                    refine AllReadyH.cons (o := dxo7) rfl (fun K hK => ?_) AllReadyH.nil
                    (try unfold dxo7)
                    go_simp
                    have HG98 := hide (HG95.out.next hp (HG95.out.cur.below (bnew wv94 (.cells #[.int .i64 (-1), .int .i64 0, .int .i64 1000000, .int .i64 1000001] 2))) (Kept.of_below (bnew wv94 (.cells #[.int .i64 (-1), .int .i64 0, .int .i64 1000000, .int .i64 1000001] 2))))
                    have TB100 : Hid (∀ Y, Y < 4 → ∃ z : Int, (wv94.alloc (.cells #[.int .i64 (-1), .int .i64 0, .int .i64 1000000, .int .i64 1000001] 2)).cell? ⟨wv94.heap.size, Y, none⟩ = some (.int .i64 z)) := fun Y h => lit4 (w := wv94) Y h
                    have hne101 : wv94.heap.size ≠ p := by have := HG95.out.kept.size; omega
                    refine hK.out _ (wv94.alloc (.cells #[.int .i64 (-1), .int .i64 0, .int .i64 1000000, .int .i64 1000001] 2)) trivial (fun hHeld => ?_)
                    clear hK K
                    (try simp only [Act.put, List.setIfInBounds_toArray, List.set_cons_zero, List.set_cons_succ])
                    generalize hgwv97 : wv94.alloc (.cells #[.int .i64 (-1), .int .i64 0, .int .i64 1000000, .int .i64 1000001] 2) = wv97 at *
                    clear hgwv97
                    generalize hqwv97 : wv94.heap.size = X99 at *
                    clear hqwv97
                    refine wpAnyH_take (i := 10) (oi := dxo10) (v := ?_) rfl (by kernel_rfl) (by kernel_rfl) (by kernel_rfl) (fun _ _ _ h => h) (Or.inl ⟨by rfl, ?hy41⟩) (by assumption) ?rest41
                    case hy41 => (intro w' hSw; (try dsimp only at hSw); (try unfold dxo10); go_simp; try with_reducible rfl)
                    (try simp only [Act.put, List.setIfInBounds_toArray, List.set_cons_zero, List.set_cons_succ])
                    refine wpAnyH_ready (rs := [11]) (by kernel_rfl) (by simp) ?_
                    refine AllReadyH.cons (o := dxo11) rfl (fun K hK => ?_) AllReadyH.nil
                    obtain ⟨zB, hzB⟩ := TB100.out YB hYB
                    (try unfold dxo11)
                    go_simp
                    refine hK.out _ wv97 trivial (fun hHeld => ?_)
                    clear hK K
                    (try simp only [Act.put, List.setIfInBounds_toArray, List.set_cons_zero, List.set_cons_succ])
                    clear hzB
                    refine wpAnyH_take (i := 12) (oi := dxo12) (v := ?_) rfl (by kernel_rfl) (by kernel_rfl) (by kernel_rfl) (fun _ _ _ h => h) (Or.inl ⟨by rfl, ?hy42⟩) (by assumption) ?rest42
                    case hy42 => (intro w' hSw; (try dsimp only at hSw); (try unfold dxo12); go_simp; try with_reducible rfl)
                    (try simp only [Act.put, List.setIfInBounds_toArray, List.set_cons_zero, List.set_cons_succ])
                    refine wpAnyH_take (i := 13) (oi := dxo13) (v := ?_) rfl (by kernel_rfl) (by kernel_rfl) (by kernel_rfl) (fun _ _ _ h => h) (Or.inl ⟨by rfl, ?hy43⟩) (by assumption) ?rest43
                    case hy43 => (intro w' hSw; (try dsimp only at hSw); (try unfold dxo13); go_simp; try with_reducible rfl)
                    (try simp only [Act.put, List.setIfInBounds_toArray, List.set_cons_zero, List.set_cons_succ])
                    refine wpAnyH_ready (rs := [14]) (by kernel_rfl) (by simp) ?_
                    refine AllReadyH.cons (o := dxo14) rfl (fun K hK => ?_) AllReadyH.nil
                    obtain ⟨b', cp', hbe, hbw, hcl⟩ := HG98.out.form hm0
                    cases hbe
                    obtain ⟨⟨v0, hv0⟩, hf0⟩ := hcl (KI * 2) (by omega)
                    obtain ⟨⟨v1, hv1⟩, hf1⟩ := hcl (KI * 2 + 1) (by omega)
                    have GF := hide ((HG98.out.set hp HAB.out hbw (KI * 2) zA).set hp HAB.out hbw (KI * 2 + 1) zB)
                    clear hcl
                    (try unfold dxo14)
                    go_simp
                    refine hK.out _ ((wv97.setCell ⟨b, KI * 2, none⟩ (.int .i64 zA)).setCell ⟨b, KI * 2 + 1, none⟩ (.int .i64 zB)) trivial (fun hHeld => ?_)
                    clear hK K
                    (try simp only [Act.put, List.setIfInBounds_toArray, List.set_cons_zero, List.set_cons_succ])
                    refine wpAnyH_done (by kernel_rfl) ?_ _
                    go_wp2_with fail
                    go_meet
                    exact ⟨_, _, rfl, GF.out⟩
                · (try unfold dxo7)
                  go_simp
                  have HG103 := hide (HG81.out.next hp (HG81.out.cur.below (bnew wv80 (.cells #[.int .i64 (-1), .int .i64 0, .int .i64 1000000, .int .i64 1000001] 2))) (Kept.of_below (bnew wv80 (.cells #[.int .i64 (-1), .int .i64 0, .int .i64 1000000, .int .i64 1000001] 2))))
                  have TB105 : Hid (∀ Y, Y < 4 → ∃ z : Int, (wv80.alloc (.cells #[.int .i64 (-1), .int .i64 0, .int .i64 1000000, .int .i64 1000001] 2)).cell? ⟨wv80.heap.size, Y, none⟩ = some (.int .i64 z)) := fun Y h => lit4 (w := wv80) Y h
                  have hne106 : wv80.heap.size ≠ p := by have := HG81.out.kept.size; omega
                  have TA107 : Hid (∀ Y, Y < 3 → ∃ z : Int, (wv80.alloc (.cells #[.int .i64 (-1), .int .i64 0, .int .i64 1000000, .int .i64 1000001] 2)).cell? ⟨X82, Y, none⟩ = some (.int .i64 z)) := fun Y h => (TA83.out Y h).imp fun z hz => cell_up (bnew wv80 (.cells #[.int .i64 (-1), .int .i64 0, .int .i64 1000000, .int .i64 1000001] 2)) hz
                  refine hK.out _ (wv80.alloc (.cells #[.int .i64 (-1), .int .i64 0, .int .i64 1000000, .int .i64 1000001] 2)) trivial (fun hHeld => ?_)
                  clear hK K
                  (try simp only [Act.put, List.setIfInBounds_toArray, List.set_cons_zero, List.set_cons_succ])
                  generalize hgwv102 : wv80.alloc (.cells #[.int .i64 (-1), .int .i64 0, .int .i64 1000000, .int .i64 1000001] 2) = wv102 at *
                  clear hgwv102
                  generalize hqwv102 : wv80.heap.size = X104 at *
                  clear hqwv102
                  refine wpAnyH_ready (rs := [6, 9]) (by kernel_rfl) (by simp) ?_
                  refine AllReadyH.cons (o := dxo6) rfl (fun K hK => ?_) (AllReadyH.cons (o := dxo9) rfl (fun K hK => ?_) AllReadyH.nil)
                  · obtain ⟨zA, hzA⟩ := TA107.out YA hYA
                    (try unfold dxo6)
                    go_simp
                    refine hK.out _ wv102 trivial (fun hHeld => ?_)
                    clear hK K
                    (try simp only [Act.put, List.setIfInBounds_toArray, List.set_cons_zero, List.set_cons_succ])
                    clear hzA
                    refine wpAnyH_ready (rs := [9]) (by kernel_rfl) (by simp) ?_
                    refine AllReadyH.cons (o := dxo9) rfl (fun K hK => ?_) AllReadyH.nil
                    (try unfold dxo9)
                    go_simp
                    (with_reducible refine (c4 _ HG103.out.cur).mono ?_)
                    rintro e wv108 ⟨y, rfl, y0, y1, hc, hk110⟩
                    obtain ⟨YB, rfl⟩ : ∃ YB : Nat, y = YB := ⟨y.toNat, by omega⟩
                    have hYB : YB < 4 := by omega
                    have hYBi : (YB : Int) < 4 := by omega
                    have HG109 := hide (HG103.out.next hp hc hk110)
                    have TB111 : Hid (∀ Y, Y < 4 → ∃ z : Int, wv108.cell? ⟨X104, Y, none⟩ = some (.int .i64 z)) := fun Y h => (TB105.out Y h).imp fun z hz => hk110.cell (a := ⟨X104, Y, none⟩) hne106 hz
                    clear hc hk110 y0 y1
                    dsimp only
                    refine hK.out _ wv108 trivial (fun hHeld => ?_)
                    clear hK K
                    (try simp only [Act.put, List.setIfInBounds_toArray, List.set_cons_zero, List.set_cons_succ])
                    refine wpAnyH_take (i := 10) (oi := dxo10) (v := ?_) rfl (by kernel_rfl) (by kernel_rfl) (by kernel_rfl) (fun _ _ _ h => h) (Or.inl ⟨by rfl, ?hy44⟩) (by assumption) ?rest44
                    case hy44 => (intro w' hSw; (try dsimp only at hSw); (try unfold dxo10); go_simp; try with_reducible rfl)
                    (try simp only [Act.put, List.setIfInBounds_toArray, List.set_cons_zero, List.set_cons_succ])
                    refine wpAnyH_ready (rs := [11]) (by kernel_rfl) (by simp) ?_
                    refine AllReadyH.cons (o := dxo11) rfl (fun K hK => ?_) AllReadyH.nil
                    obtain ⟨zB, hzB⟩ := TB111.out YB hYB
                    (try unfold dxo11)
                    go_simp
                    refine hK.out _ wv108 trivial (fun hHeld => ?_)
                    clear hK K
                    (try simp only [Act.put, List.setIfInBounds_toArray, List.set_cons_zero, List.set_cons_succ])
                    clear hzB
                    refine wpAnyH_take (i := 12) (oi := dxo12) (v := ?_) rfl (by kernel_rfl) (by kernel_rfl) (by kernel_rfl) (fun _ _ _ h => h) (Or.inl ⟨by rfl, ?hy45⟩) (by assumption) ?rest45
                    case hy45 => (intro w' hSw; (try dsimp only at hSw); (try unfold dxo12); go_simp; try with_reducible rfl)
                    (try simp only [Act.put, List.setIfInBounds_toArray, List.set_cons_zero, List.set_cons_succ])
                    refine wpAnyH_take (i := 13) (oi := dxo13) (v := ?_) rfl (by kernel_rfl) (by kernel_rfl) (by kernel_rfl) (fun _ _ _ h => h) (Or.inl ⟨by rfl, ?hy46⟩) (by assumption) ?rest46
                    case hy46 => (intro w' hSw; (try dsimp only at hSw); (try unfold dxo13); go_simp; try with_reducible rfl)
                    (try simp only [Act.put, List.setIfInBounds_toArray, List.set_cons_zero, List.set_cons_succ])
                    refine wpAnyH_ready (rs := [14]) (by kernel_rfl) (by simp) ?_
                    refine AllReadyH.cons (o := dxo14) rfl (fun K hK => ?_) AllReadyH.nil
                    obtain ⟨b', cp', hbe, hbw, hcl⟩ := HG109.out.form hm0
                    cases hbe
                    obtain ⟨⟨v0, hv0⟩, hf0⟩ := hcl (KI * 2) (by omega)
                    obtain ⟨⟨v1, hv1⟩, hf1⟩ := hcl (KI * 2 + 1) (by omega)
                    have GF := hide ((HG109.out.set hp HAB.out hbw (KI * 2) zA).set hp HAB.out hbw (KI * 2 + 1) zB)
                    clear hcl
                    (try unfold dxo14)
                    go_simp
                    refine hK.out _ ((wv108.setCell ⟨b, KI * 2, none⟩ (.int .i64 zA)).setCell ⟨b, KI * 2 + 1, none⟩ (.int .i64 zB)) trivial (fun hHeld => ?_)
                    clear hK K
                    (try simp only [Act.put, List.setIfInBounds_toArray, List.set_cons_zero, List.set_cons_succ])
                    refine wpAnyH_done (by kernel_rfl) ?_ _
                    go_wp2_with fail
                    go_meet
                    exact ⟨_, _, rfl, GF.out⟩
                  · (try unfold dxo9)
                    go_simp
                    (with_reducible refine (c4 _ HG103.out.cur).mono ?_)
                    rintro e wv112 ⟨y, rfl, y0, y1, hc, hk114⟩
                    obtain ⟨YB, rfl⟩ : ∃ YB : Nat, y = YB := ⟨y.toNat, by omega⟩
                    have hYB : YB < 4 := by omega
                    have hYBi : (YB : Int) < 4 := by omega
                    have HG113 := hide (HG103.out.next hp hc hk114)
                    have TA115 : Hid (∀ Y, Y < 3 → ∃ z : Int, wv112.cell? ⟨X82, Y, none⟩ = some (.int .i64 z)) := fun Y h => (TA107.out Y h).imp fun z hz => hk114.cell (a := ⟨X82, Y, none⟩) hne84 hz
                    have TB116 : Hid (∀ Y, Y < 4 → ∃ z : Int, wv112.cell? ⟨X104, Y, none⟩ = some (.int .i64 z)) := fun Y h => (TB105.out Y h).imp fun z hz => hk114.cell (a := ⟨X104, Y, none⟩) hne106 hz
                    clear hc hk114 y0 y1
                    dsimp only
                    refine hK.out _ wv112 trivial (fun hHeld => ?_)
                    clear hK K
                    (try simp only [Act.put, List.setIfInBounds_toArray, List.set_cons_zero, List.set_cons_succ])
                    refine wpAnyH_take (i := 10) (oi := dxo10) (v := ?_) rfl (by kernel_rfl) (by kernel_rfl) (by kernel_rfl) (fun _ _ _ h => h) (Or.inl ⟨by rfl, ?hy47⟩) (by assumption) ?rest47
                    case hy47 => (intro w' hSw; (try dsimp only at hSw); (try unfold dxo10); go_simp; try with_reducible rfl)
                    (try simp only [Act.put, List.setIfInBounds_toArray, List.set_cons_zero, List.set_cons_succ])
                    refine wpAnyH_ready (rs := [6, 11]) (by kernel_rfl) (by simp) ?_
                    refine AllReadyH.cons (o := dxo6) rfl (fun K hK => ?_) (AllReadyH.cons (o := dxo11) rfl (fun K hK => ?_) AllReadyH.nil)
                    · obtain ⟨zA, hzA⟩ := TA115.out YA hYA
                      (try unfold dxo6)
                      go_simp
                      refine hK.out _ wv112 trivial (fun hHeld => ?_)
                      clear hK K
                      (try simp only [Act.put, List.setIfInBounds_toArray, List.set_cons_zero, List.set_cons_succ])
                      clear hzA
                      refine wpAnyH_ready (rs := [11]) (by kernel_rfl) (by simp) ?_
                      refine AllReadyH.cons (o := dxo11) rfl (fun K hK => ?_) AllReadyH.nil
                      obtain ⟨zB, hzB⟩ := TB116.out YB hYB
                      (try unfold dxo11)
                      go_simp
                      refine hK.out _ wv112 trivial (fun hHeld => ?_)
                      clear hK K
                      (try simp only [Act.put, List.setIfInBounds_toArray, List.set_cons_zero, List.set_cons_succ])
                      clear hzB
                      refine wpAnyH_take (i := 12) (oi := dxo12) (v := ?_) rfl (by kernel_rfl) (by kernel_rfl) (by kernel_rfl) (fun _ _ _ h => h) (Or.inl ⟨by rfl, ?hy48⟩) (by assumption) ?rest48
                      case hy48 => (intro w' hSw; (try dsimp only at hSw); (try unfold dxo12); go_simp; try with_reducible rfl)
                      (try simp only [Act.put, List.setIfInBounds_toArray, List.set_cons_zero, List.set_cons_succ])
                      refine wpAnyH_take (i := 13) (oi := dxo13) (v := ?_) rfl (by kernel_rfl) (by kernel_rfl) (by kernel_rfl) (fun _ _ _ h => h) (Or.inl ⟨by rfl, ?hy49⟩) (by assumption) ?rest49
                      case hy49 => (intro w' hSw; (try dsimp only at hSw); (try unfold dxo13); go_simp; try with_reducible rfl)
                      (try simp only [Act.put, List.setIfInBounds_toArray, List.set_cons_zero, List.set_cons_succ])
                      refine wpAnyH_ready (rs := [14]) (by kernel_rfl) (by simp) ?_
                      refine AllReadyH.cons (o := dxo14) rfl (fun K hK => ?_) AllReadyH.nil
                      obtain ⟨b', cp', hbe, hbw, hcl⟩ := HG113.out.form hm0
                      cases hbe
                      obtain ⟨⟨v0, hv0⟩, hf0⟩ := hcl (KI * 2) (by omega)
                      obtain ⟨⟨v1, hv1⟩, hf1⟩ := hcl (KI * 2 + 1) (by omega)
                      have GF := hide ((HG113.out.set hp HAB.out hbw (KI * 2) zA).set hp HAB.out hbw (KI * 2 + 1) zB)
                      clear hcl
                      (try unfold dxo14)
                      go_simp
                      refine hK.out _ ((wv112.setCell ⟨b, KI * 2, none⟩ (.int .i64 zA)).setCell ⟨b, KI * 2 + 1, none⟩ (.int .i64 zB)) trivial (fun hHeld => ?_)
                      clear hK K
                      (try simp only [Act.put, List.setIfInBounds_toArray, List.set_cons_zero, List.set_cons_succ])
                      refine wpAnyH_done (by kernel_rfl) ?_ _
                      go_wp2_with fail
                      go_meet
                      exact ⟨_, _, rfl, GF.out⟩
                    · obtain ⟨zB, hzB⟩ := TB116.out YB hYB
                      (try unfold dxo11)
                      go_simp
                      refine hK.out _ wv112 trivial (fun hHeld => ?_)
                      clear hK K
                      (try simp only [Act.put, List.setIfInBounds_toArray, List.set_cons_zero, List.set_cons_succ])
                      clear hzB
                      refine wpAnyH_ready (rs := [6]) (by kernel_rfl) (by simp) ?_
                      refine AllReadyH.cons (o := dxo6) rfl (fun K hK => ?_) AllReadyH.nil
                      obtain ⟨zA, hzA⟩ := TA115.out YA hYA
                      (try unfold dxo6)
                      go_simp
                      refine hK.out _ wv112 trivial (fun hHeld => ?_)
                      clear hK K
                      (try simp only [Act.put, List.setIfInBounds_toArray, List.set_cons_zero, List.set_cons_succ])
                      clear hzA
                      refine wpAnyH_take (i := 12) (oi := dxo12) (v := ?_) rfl (by kernel_rfl) (by kernel_rfl) (by kernel_rfl) (fun _ _ _ h => h) (Or.inl ⟨by rfl, ?hy50⟩) (by assumption) ?rest50
                      case hy50 => (intro w' hSw; (try dsimp only at hSw); (try unfold dxo12); go_simp; try with_reducible rfl)
                      (try simp only [Act.put, List.setIfInBounds_toArray, List.set_cons_zero, List.set_cons_succ])
                      refine wpAnyH_take (i := 13) (oi := dxo13) (v := ?_) rfl (by kernel_rfl) (by kernel_rfl) (by kernel_rfl) (fun _ _ _ h => h) (Or.inl ⟨by rfl, ?hy51⟩) (by assumption) ?rest51
                      case hy51 => (intro w' hSw; (try dsimp only at hSw); (try unfold dxo13); go_simp; try with_reducible rfl)
                      (try simp only [Act.put, List.setIfInBounds_toArray, List.set_cons_zero, List.set_cons_succ])
                      refine wpAnyH_ready (rs := [14]) (by kernel_rfl) (by simp) ?_
                      refine AllReadyH.cons (o := dxo14) rfl (fun K hK => ?_) AllReadyH.nil
                      obtain ⟨b', cp', hbe, hbw, hcl⟩ := HG113.out.form hm0
                      cases hbe
                      obtain ⟨⟨v0, hv0⟩, hf0⟩ := hcl (KI * 2) (by omega)
                      obtain ⟨⟨v1, hv1⟩, hf1⟩ := hcl (KI * 2 + 1) (by omega)
                      have GF := hide ((HG113.out.set hp HAB.out hbw (KI * 2) zA).set hp HAB.out hbw (KI * 2 + 1) zB)
                      clear hcl
                      (try unfold dxo14)
                      go_simp
                      refine hK.out _ ((wv112.setCell ⟨b, KI * 2, none⟩ (.int .i64 zA)).setCell ⟨b, KI * 2 + 1, none⟩ (.int .i64 zB)) trivial (fun hHeld => ?_)
                      clear hK K
                      (try simp only [Act.put, List.setIfInBounds_toArray, List.set_cons_zero, List.set_cons_succ])
                      refine wpAnyH_done (by kernel_rfl) ?_ _
                      go_wp2_with fail
                      go_meet
                      exact ⟨_, _, rfl, GF.out⟩
                · (try unfold dxo9)
                  go_simp
                  (with_reducible refine (c4 _ HG81.out.cur).mono ?_)
                  rintro e wv117 ⟨y, rfl, y0, y1, hc, hk119⟩
                  obtain ⟨YB, rfl⟩ : ∃ YB : Nat, y = YB := ⟨y.toNat, by omega⟩
                  have hYB : YB < 4 := by omega
                  have hYBi : (YB : Int) < 4 := by omega
                  have HG118 := hide (HG81.out.next hp hc hk119)
                  have TA120 : Hid (∀ Y, Y < 3 → ∃ z : Int, wv117.cell? ⟨X82, Y, none⟩ = some (.int .i64 z)) := fun Y h => (TA83.out Y h).imp fun z hz => hk119.cell (a := ⟨X82, Y, none⟩) hne84 hz
                  clear hc hk119 y0 y1
                  dsimp only
                  refine hK.out _ wv117 trivial (fun hHeld => ?_)
                  clear hK K
                  (try simp only [Act.put, List.setIfInBounds_toArray, List.set_cons_zero, List.set_cons_succ])
                  refine wpAnyH_ready (rs := [6, 7]) (by kernel_rfl) (by simp) ?_
                  refine AllReadyH.cons (o := dxo6) rfl (fun K hK => ?_) (AllReadyH.cons (o := dxo7) rfl (fun K hK => ?_) AllReadyH.nil)
                  · obtain ⟨zA, hzA⟩ := TA120.out YA hYA
                    (try unfold dxo6)
                    go_simp
                    refine hK.out _ wv117 trivial (fun hHeld => ?_)
                    clear hK K
                    (try simp only [Act.put, List.setIfInBounds_toArray, List.set_cons_zero, List.set_cons_succ])
                    clear hzA
                    refine wpAnyH_ready (rs := [7]) (by kernel_rfl) (by simp) ?_
                    refine AllReadyH.cons (o := dxo7) rfl (fun K hK => ?_) AllReadyH.nil
                    (try unfold dxo7)
                    go_simp
                    have HG122 := hide (HG118.out.next hp (HG118.out.cur.below (bnew wv117 (.cells #[.int .i64 (-1), .int .i64 0, .int .i64 1000000, .int .i64 1000001] 2))) (Kept.of_below (bnew wv117 (.cells #[.int .i64 (-1), .int .i64 0, .int .i64 1000000, .int .i64 1000001] 2))))
                    have TB124 : Hid (∀ Y, Y < 4 → ∃ z : Int, (wv117.alloc (.cells #[.int .i64 (-1), .int .i64 0, .int .i64 1000000, .int .i64 1000001] 2)).cell? ⟨wv117.heap.size, Y, none⟩ = some (.int .i64 z)) := fun Y h => lit4 (w := wv117) Y h
                    have hne125 : wv117.heap.size ≠ p := by have := HG118.out.kept.size; omega
                    refine hK.out _ (wv117.alloc (.cells #[.int .i64 (-1), .int .i64 0, .int .i64 1000000, .int .i64 1000001] 2)) trivial (fun hHeld => ?_)
                    clear hK K
                    (try simp only [Act.put, List.setIfInBounds_toArray, List.set_cons_zero, List.set_cons_succ])
                    generalize hgwv121 : wv117.alloc (.cells #[.int .i64 (-1), .int .i64 0, .int .i64 1000000, .int .i64 1000001] 2) = wv121 at *
                    clear hgwv121
                    generalize hqwv121 : wv117.heap.size = X123 at *
                    clear hqwv121
                    refine wpAnyH_take (i := 10) (oi := dxo10) (v := ?_) rfl (by kernel_rfl) (by kernel_rfl) (by kernel_rfl) (fun _ _ _ h => h) (Or.inl ⟨by rfl, ?hy52⟩) (by assumption) ?rest52
                    case hy52 => (intro w' hSw; (try dsimp only at hSw); (try unfold dxo10); go_simp; try with_reducible rfl)
                    (try simp only [Act.put, List.setIfInBounds_toArray, List.set_cons_zero, List.set_cons_succ])
                    refine wpAnyH_ready (rs := [11]) (by kernel_rfl) (by simp) ?_
                    refine AllReadyH.cons (o := dxo11) rfl (fun K hK => ?_) AllReadyH.nil
                    obtain ⟨zB, hzB⟩ := TB124.out YB hYB
                    (try unfold dxo11)
                    go_simp
                    refine hK.out _ wv121 trivial (fun hHeld => ?_)
                    clear hK K
                    (try simp only [Act.put, List.setIfInBounds_toArray, List.set_cons_zero, List.set_cons_succ])
                    clear hzB
                    refine wpAnyH_take (i := 12) (oi := dxo12) (v := ?_) rfl (by kernel_rfl) (by kernel_rfl) (by kernel_rfl) (fun _ _ _ h => h) (Or.inl ⟨by rfl, ?hy53⟩) (by assumption) ?rest53
                    case hy53 => (intro w' hSw; (try dsimp only at hSw); (try unfold dxo12); go_simp; try with_reducible rfl)
                    (try simp only [Act.put, List.setIfInBounds_toArray, List.set_cons_zero, List.set_cons_succ])
                    refine wpAnyH_take (i := 13) (oi := dxo13) (v := ?_) rfl (by kernel_rfl) (by kernel_rfl) (by kernel_rfl) (fun _ _ _ h => h) (Or.inl ⟨by rfl, ?hy54⟩) (by assumption) ?rest54
                    case hy54 => (intro w' hSw; (try dsimp only at hSw); (try unfold dxo13); go_simp; try with_reducible rfl)
                    (try simp only [Act.put, List.setIfInBounds_toArray, List.set_cons_zero, List.set_cons_succ])
                    refine wpAnyH_ready (rs := [14]) (by kernel_rfl) (by simp) ?_
                    refine AllReadyH.cons (o := dxo14) rfl (fun K hK => ?_) AllReadyH.nil
                    obtain ⟨b', cp', hbe, hbw, hcl⟩ := HG122.out.form hm0
                    cases hbe
                    obtain ⟨⟨v0, hv0⟩, hf0⟩ := hcl (KI * 2) (by omega)
                    obtain ⟨⟨v1, hv1⟩, hf1⟩ := hcl (KI * 2 + 1) (by omega)
                    have GF := hide ((HG122.out.set hp HAB.out hbw (KI * 2) zA).set hp HAB.out hbw (KI * 2 + 1) zB)
                    clear hcl
                    (try unfold dxo14)
                    go_simp
                    refine hK.out _ ((wv121.setCell ⟨b, KI * 2, none⟩ (.int .i64 zA)).setCell ⟨b, KI * 2 + 1, none⟩ (.int .i64 zB)) trivial (fun hHeld => ?_)
                    clear hK K
                    (try simp only [Act.put, List.setIfInBounds_toArray, List.set_cons_zero, List.set_cons_succ])
                    refine wpAnyH_done (by kernel_rfl) ?_ _
                    go_wp2_with fail
                    go_meet
                    exact ⟨_, _, rfl, GF.out⟩
                  · (try unfold dxo7)
                    go_simp
                    have HG127 := hide (HG118.out.next hp (HG118.out.cur.below (bnew wv117 (.cells #[.int .i64 (-1), .int .i64 0, .int .i64 1000000, .int .i64 1000001] 2))) (Kept.of_below (bnew wv117 (.cells #[.int .i64 (-1), .int .i64 0, .int .i64 1000000, .int .i64 1000001] 2))))
                    have TB129 : Hid (∀ Y, Y < 4 → ∃ z : Int, (wv117.alloc (.cells #[.int .i64 (-1), .int .i64 0, .int .i64 1000000, .int .i64 1000001] 2)).cell? ⟨wv117.heap.size, Y, none⟩ = some (.int .i64 z)) := fun Y h => lit4 (w := wv117) Y h
                    have hne130 : wv117.heap.size ≠ p := by have := HG118.out.kept.size; omega
                    have TA131 : Hid (∀ Y, Y < 3 → ∃ z : Int, (wv117.alloc (.cells #[.int .i64 (-1), .int .i64 0, .int .i64 1000000, .int .i64 1000001] 2)).cell? ⟨X82, Y, none⟩ = some (.int .i64 z)) := fun Y h => (TA120.out Y h).imp fun z hz => cell_up (bnew wv117 (.cells #[.int .i64 (-1), .int .i64 0, .int .i64 1000000, .int .i64 1000001] 2)) hz
                    refine hK.out _ (wv117.alloc (.cells #[.int .i64 (-1), .int .i64 0, .int .i64 1000000, .int .i64 1000001] 2)) trivial (fun hHeld => ?_)
                    clear hK K
                    (try simp only [Act.put, List.setIfInBounds_toArray, List.set_cons_zero, List.set_cons_succ])
                    generalize hgwv126 : wv117.alloc (.cells #[.int .i64 (-1), .int .i64 0, .int .i64 1000000, .int .i64 1000001] 2) = wv126 at *
                    clear hgwv126
                    generalize hqwv126 : wv117.heap.size = X128 at *
                    clear hqwv126
                    refine wpAnyH_take (i := 10) (oi := dxo10) (v := ?_) rfl (by kernel_rfl) (by kernel_rfl) (by kernel_rfl) (fun _ _ _ h => h) (Or.inl ⟨by rfl, ?hy55⟩) (by assumption) ?rest55
                    case hy55 => (intro w' hSw; (try dsimp only at hSw); (try unfold dxo10); go_simp; try with_reducible rfl)
                    (try simp only [Act.put, List.setIfInBounds_toArray, List.set_cons_zero, List.set_cons_succ])
                    refine wpAnyH_ready (rs := [6, 11]) (by kernel_rfl) (by simp) ?_
                    refine AllReadyH.cons (o := dxo6) rfl (fun K hK => ?_) (AllReadyH.cons (o := dxo11) rfl (fun K hK => ?_) AllReadyH.nil)
                    · obtain ⟨zA, hzA⟩ := TA131.out YA hYA
                      (try unfold dxo6)
                      go_simp
                      refine hK.out _ wv126 trivial (fun hHeld => ?_)
                      clear hK K
                      (try simp only [Act.put, List.setIfInBounds_toArray, List.set_cons_zero, List.set_cons_succ])
                      clear hzA
                      refine wpAnyH_ready (rs := [11]) (by kernel_rfl) (by simp) ?_
                      refine AllReadyH.cons (o := dxo11) rfl (fun K hK => ?_) AllReadyH.nil
                      obtain ⟨zB, hzB⟩ := TB129.out YB hYB
                      (try unfold dxo11)
                      go_simp
                      refine hK.out _ wv126 trivial (fun hHeld => ?_)
                      clear hK K
                      (try simp only [Act.put, List.setIfInBounds_toArray, List.set_cons_zero, List.set_cons_succ])
                      clear hzB
                      refine wpAnyH_take (i := 12) (oi := dxo12) (v := ?_) rfl (by kernel_rfl) (by kernel_rfl) (by kernel_rfl) (fun _ _ _ h => h) (Or.inl ⟨by rfl, ?hy56⟩) (by assumption) ?rest56
                      case hy56 => (intro w' hSw; (try dsimp only at hSw); (try unfold dxo12); go_simp; try with_reducible rfl)
                      (try simp only [Act.put, List.setIfInBounds_toArray, List.set_cons_zero, List.set_cons_succ])
                      refine wpAnyH_take (i := 13) (oi := dxo13) (v := ?_) rfl (by kernel_rfl) (by kernel_rfl) (by kernel_rfl) (fun _ _ _ h => h) (Or.inl ⟨by rfl, ?hy57⟩) (by assumption) ?rest57
                      case hy57 => (intro w' hSw; (try dsimp only at hSw); (try unfold dxo13); go_simp; try with_reducible rfl)
                      (try simp only [Act.put, List.setIfInBounds_toArray, List.set_cons_zero, List.set_cons_succ])
                      refine wpAnyH_ready (rs := [14]) (by kernel_rfl) (by simp) ?_
                      refine AllReadyH.cons (o := dxo14) rfl (fun K hK => ?_) AllReadyH.nil
                      obtain ⟨b', cp', hbe, hbw, hcl⟩ := HG127.out.form hm0
                      cases hbe
                      obtain ⟨⟨v0, hv0⟩, hf0⟩ := hcl (KI * 2) (by omega)
                      obtain ⟨⟨v1, hv1⟩, hf1⟩ := hcl (KI * 2 + 1) (by omega)
                      have GF := hide ((HG127.out.set hp HAB.out hbw (KI * 2) zA).set hp HAB.out hbw (KI * 2 + 1) zB)
                      clear hcl
                      (try unfold dxo14)
                      go_simp
                      refine hK.out _ ((wv126.setCell ⟨b, KI * 2, none⟩ (.int .i64 zA)).setCell ⟨b, KI * 2 + 1, none⟩ (.int .i64 zB)) trivial (fun hHeld => ?_)
                      clear hK K
                      (try simp only [Act.put, List.setIfInBounds_toArray, List.set_cons_zero, List.set_cons_succ])
                      refine wpAnyH_done (by kernel_rfl) ?_ _
                      go_wp2_with fail
                      go_meet
                      exact ⟨_, _, rfl, GF.out⟩
                    · obtain ⟨zB, hzB⟩ := TB129.out YB hYB
                      (try unfold dxo11)
                      go_simp
                      refine hK.out _ wv126 trivial (fun hHeld => ?_)
                      clear hK K
                      (try simp only [Act.put, List.setIfInBounds_toArray, List.set_cons_zero, List.set_cons_succ])
                      clear hzB
                      refine wpAnyH_ready (rs := [6]) (by kernel_rfl) (by simp) ?_
                      refine AllReadyH.cons (o := dxo6) rfl (fun K hK => ?_) AllReadyH.nil
                      obtain ⟨zA, hzA⟩ := TA131.out YA hYA
                      (try unfold dxo6)
                      go_simp
                      refine hK.out _ wv126 trivial (fun hHeld => ?_)
                      clear hK K
                      (try simp only [Act.put, List.setIfInBounds_toArray, List.set_cons_zero, List.set_cons_succ])
                      clear hzA
                      refine wpAnyH_take (i := 12) (oi := dxo12) (v := ?_) rfl (by kernel_rfl) (by kernel_rfl) (by kernel_rfl) (fun _ _ _ h => h) (Or.inl ⟨by rfl, ?hy58⟩) (by assumption) ?rest58
                      case hy58 => (intro w' hSw; (try dsimp only at hSw); (try unfold dxo12); go_simp; try with_reducible rfl)
                      (try simp only [Act.put, List.setIfInBounds_toArray, List.set_cons_zero, List.set_cons_succ])
                      refine wpAnyH_take (i := 13) (oi := dxo13) (v := ?_) rfl (by kernel_rfl) (by kernel_rfl) (by kernel_rfl) (fun _ _ _ h => h) (Or.inl ⟨by rfl, ?hy59⟩) (by assumption) ?rest59
                      case hy59 => (intro w' hSw; (try dsimp only at hSw); (try unfold dxo13); go_simp; try with_reducible rfl)
                      (try simp only [Act.put, List.setIfInBounds_toArray, List.set_cons_zero, List.set_cons_succ])
                      refine wpAnyH_ready (rs := [14]) (by kernel_rfl) (by simp) ?_
                      refine AllReadyH.cons (o := dxo14) rfl (fun K hK => ?_) AllReadyH.nil
                      obtain ⟨b', cp', hbe, hbw, hcl⟩ := HG127.out.form hm0
                      cases hbe
                      obtain ⟨⟨v0, hv0⟩, hf0⟩ := hcl (KI * 2) (by omega)
                      obtain ⟨⟨v1, hv1⟩, hf1⟩ := hcl (KI * 2 + 1) (by omega)
                      have GF := hide ((HG127.out.set hp HAB.out hbw (KI * 2) zA).set hp HAB.out hbw (KI * 2 + 1) zB)
                      clear hcl
                      (try unfold dxo14)
                      go_simp
                      refine hK.out _ ((wv126.setCell ⟨b, KI * 2, none⟩ (.int .i64 zA)).setCell ⟨b, KI * 2 + 1, none⟩ (.int .i64 zB)) trivial (fun hHeld => ?_)
                      clear hK K
                      (try simp only [Act.put, List.setIfInBounds_toArray, List.set_cons_zero, List.set_cons_succ])
                      refine wpAnyH_done (by kernel_rfl) ?_ _
                      go_wp2_with fail
                      go_meet
                      exact ⟨_, _, rfl, GF.out⟩
              · (try unfold dxo7)
                go_simp
                have HG133 := hide (HG78.out.next hp (HG78.out.cur.below (bnew wv77 (.cells #[.int .i64 (-1), .int .i64 0, .int .i64 1000000, .int .i64 1000001] 2))) (Kept.of_below (bnew wv77 (.cells #[.int .i64 (-1), .int .i64 0, .int .i64 1000000, .int .i64 1000001] 2))))
                have TB135 : Hid (∀ Y, Y < 4 → ∃ z : Int, (wv77.alloc (.cells #[.int .i64 (-1), .int .i64 0, .int .i64 1000000, .int .i64 1000001] 2)).cell? ⟨wv77.heap.size, Y, none⟩ = some (.int .i64 z)) := fun Y h => lit4 (w := wv77) Y h
                have hne136 : wv77.heap.size ≠ p := by have := HG78.out.kept.size; omega
                refine hK.out _ (wv77.alloc (.cells #[.int .i64 (-1), .int .i64 0, .int .i64 1000000, .int .i64 1000001] 2)) trivial (fun hHeld => ?_)
                clear hK K
                (try simp only [Act.put, List.setIfInBounds_toArray, List.set_cons_zero, List.set_cons_succ])
                generalize hgwv132 : wv77.alloc (.cells #[.int .i64 (-1), .int .i64 0, .int .i64 1000000, .int .i64 1000001] 2) = wv132 at *
                clear hgwv132
                generalize hqwv132 : wv77.heap.size = X134 at *
                clear hqwv132
                refine wpAnyH_ready (rs := [2, 9]) (by kernel_rfl) (by simp) ?_
                refine AllReadyH.cons (o := dxo2) rfl (fun K hK => ?_) (AllReadyH.cons (o := dxo9) rfl (fun K hK => ?_) AllReadyH.nil)
                · (try unfold dxo2)
                  go_simp
                  have HG138 := hide (HG133.out.next hp (HG133.out.cur.below (bnew wv132 (.cells #[.int .i64 (-1), .int .i64 31, .int .i64 32] 2))) (Kept.of_below (bnew wv132 (.cells #[.int .i64 (-1), .int .i64 31, .int .i64 32] 2))))
                  have TA140 : Hid (∀ Y, Y < 3 → ∃ z : Int, (wv132.alloc (.cells #[.int .i64 (-1), .int .i64 31, .int .i64 32] 2)).cell? ⟨wv132.heap.size, Y, none⟩ = some (.int .i64 z)) := fun Y h => lit3 (w := wv132) Y h
                  have hne141 : wv132.heap.size ≠ p := by have := HG133.out.kept.size; omega
                  have TB142 : Hid (∀ Y, Y < 4 → ∃ z : Int, (wv132.alloc (.cells #[.int .i64 (-1), .int .i64 31, .int .i64 32] 2)).cell? ⟨X134, Y, none⟩ = some (.int .i64 z)) := fun Y h => (TB135.out Y h).imp fun z hz => cell_up (bnew wv132 (.cells #[.int .i64 (-1), .int .i64 31, .int .i64 32] 2)) hz
                  refine hK.out _ (wv132.alloc (.cells #[.int .i64 (-1), .int .i64 31, .int .i64 32] 2)) trivial (fun hHeld => ?_)
                  clear hK K
                  (try simp only [Act.put, List.setIfInBounds_toArray, List.set_cons_zero, List.set_cons_succ])
                  generalize hgwv137 : wv132.alloc (.cells #[.int .i64 (-1), .int .i64 31, .int .i64 32] 2) = wv137 at *
                  clear hgwv137
                  generalize hqwv137 : wv132.heap.size = X139 at *
                  clear hqwv137
                  refine wpAnyH_take (i := 5) (oi := dxo5) (v := ?_) rfl (by kernel_rfl) (by kernel_rfl) (by kernel_rfl) (fun _ _ _ h => h) (Or.inl ⟨by rfl, ?hy60⟩) (by assumption) ?rest60
                  case hy60 => (intro w' hSw; (try dsimp only at hSw); (try unfold dxo5); go_simp; try with_reducible rfl)
                  (try simp only [Act.put, List.setIfInBounds_toArray, List.set_cons_zero, List.set_cons_succ])
                  refine wpAnyH_ready (rs := [6, 9]) (by kernel_rfl) (by simp) ?_
                  refine AllReadyH.cons (o := dxo6) rfl (fun K hK => ?_) (AllReadyH.cons (o := dxo9) rfl (fun K hK => ?_) AllReadyH.nil)
                  · obtain ⟨zA, hzA⟩ := TA140.out YA hYA
                    (try unfold dxo6)
                    go_simp
                    refine hK.out _ wv137 trivial (fun hHeld => ?_)
                    clear hK K
                    (try simp only [Act.put, List.setIfInBounds_toArray, List.set_cons_zero, List.set_cons_succ])
                    clear hzA
                    refine wpAnyH_ready (rs := [9]) (by kernel_rfl) (by simp) ?_
                    refine AllReadyH.cons (o := dxo9) rfl (fun K hK => ?_) AllReadyH.nil
                    (try unfold dxo9)
                    go_simp
                    (with_reducible refine (c4 _ HG138.out.cur).mono ?_)
                    rintro e wv143 ⟨y, rfl, y0, y1, hc, hk145⟩
                    obtain ⟨YB, rfl⟩ : ∃ YB : Nat, y = YB := ⟨y.toNat, by omega⟩
                    have hYB : YB < 4 := by omega
                    have hYBi : (YB : Int) < 4 := by omega
                    have HG144 := hide (HG138.out.next hp hc hk145)
                    have TB146 : Hid (∀ Y, Y < 4 → ∃ z : Int, wv143.cell? ⟨X134, Y, none⟩ = some (.int .i64 z)) := fun Y h => (TB142.out Y h).imp fun z hz => hk145.cell (a := ⟨X134, Y, none⟩) hne136 hz
                    clear hc hk145 y0 y1
                    dsimp only
                    refine hK.out _ wv143 trivial (fun hHeld => ?_)
                    clear hK K
                    (try simp only [Act.put, List.setIfInBounds_toArray, List.set_cons_zero, List.set_cons_succ])
                    refine wpAnyH_take (i := 10) (oi := dxo10) (v := ?_) rfl (by kernel_rfl) (by kernel_rfl) (by kernel_rfl) (fun _ _ _ h => h) (Or.inl ⟨by rfl, ?hy61⟩) (by assumption) ?rest61
                    case hy61 => (intro w' hSw; (try dsimp only at hSw); (try unfold dxo10); go_simp; try with_reducible rfl)
                    (try simp only [Act.put, List.setIfInBounds_toArray, List.set_cons_zero, List.set_cons_succ])
                    refine wpAnyH_ready (rs := [11]) (by kernel_rfl) (by simp) ?_
                    refine AllReadyH.cons (o := dxo11) rfl (fun K hK => ?_) AllReadyH.nil
                    obtain ⟨zB, hzB⟩ := TB146.out YB hYB
                    (try unfold dxo11)
                    go_simp
                    refine hK.out _ wv143 trivial (fun hHeld => ?_)
                    clear hK K
                    (try simp only [Act.put, List.setIfInBounds_toArray, List.set_cons_zero, List.set_cons_succ])
                    clear hzB
                    refine wpAnyH_take (i := 12) (oi := dxo12) (v := ?_) rfl (by kernel_rfl) (by kernel_rfl) (by kernel_rfl) (fun _ _ _ h => h) (Or.inl ⟨by rfl, ?hy62⟩) (by assumption) ?rest62
                    case hy62 => (intro w' hSw; (try dsimp only at hSw); (try unfold dxo12); go_simp; try with_reducible rfl)
                    (try simp only [Act.put, List.setIfInBounds_toArray, List.set_cons_zero, List.set_cons_succ])
                    refine wpAnyH_take (i := 13) (oi := dxo13) (v := ?_) rfl (by kernel_rfl) (by kernel_rfl) (by kernel_rfl) (fun _ _ _ h => h) (Or.inl ⟨by rfl, ?hy63⟩) (by assumption) ?rest63
                    case hy63 => (intro w' hSw; (try dsimp only at hSw); (try unfold dxo13); go_simp; try with_reducible rfl)
                    (try simp only [Act.put, List.setIfInBounds_toArray, List.set_cons_zero, List.set_cons_succ])
                    refine wpAnyH_ready (rs := [14]) (by kernel_rfl) (by simp) ?_
                    refine AllReadyH.cons (o := dxo14) rfl (fun K hK => ?_) AllReadyH.nil
                    obtain ⟨b', cp', hbe, hbw, hcl⟩ := HG144.out.form hm0
                    cases hbe
                    obtain ⟨⟨v0, hv0⟩, hf0⟩ := hcl (KI * 2) (by omega)
                    obtain ⟨⟨v1, hv1⟩, hf1⟩ := hcl (KI * 2 + 1) (by omega)
                    have GF := hide ((HG144.out.set hp HAB.out hbw (KI * 2) zA).set hp HAB.out hbw (KI * 2 + 1) zB)
                    clear hcl
                    (try unfold dxo14)
                    go_simp
                    refine hK.out _ ((wv143.setCell ⟨b, KI * 2, none⟩ (.int .i64 zA)).setCell ⟨b, KI * 2 + 1, none⟩ (.int .i64 zB)) trivial (fun hHeld => ?_)
                    clear hK K
                    (try simp only [Act.put, List.setIfInBounds_toArray, List.set_cons_zero, List.set_cons_succ])
                    refine wpAnyH_done (by kernel_rfl) ?_ _
                    go_wp2_with fail
                    go_meet
                    exact ⟨_, _, rfl, GF.out⟩
                  · (try unfold dxo9)
                    go_simp
                    (with_reducible refine (c4 _ HG138.out.cur).mono ?_)
                    rintro e wv147 ⟨y, rfl, y0, y1, hc, hk149⟩
                    obtain ⟨YB, rfl⟩ : ∃ YB : Nat, y = YB := ⟨y.toNat, by omega⟩
                    have hYB : YB < 4 := by omega
                    have hYBi : (YB : Int) < 4 := by omega
                    have HG148 := hide (HG138.out.next hp hc hk149)
                    have TA150 : Hid (∀ Y, Y < 3 → ∃ z : Int, wv147.cell? ⟨X139, Y, none⟩ = some (.int .i64 z)) := fun Y h => (TA140.out Y h).imp fun z hz => hk149.cell (a := ⟨X139, Y, none⟩) hne141 hz
                    have TB151 : Hid (∀ Y, Y < 4 → ∃ z : Int, wv147.cell? ⟨X134, Y, none⟩ = some (.int .i64 z)) := fun Y h => (TB142.out Y h).imp fun z hz => hk149.cell (a := ⟨X134, Y, none⟩) hne136 hz
                    clear hc hk149 y0 y1
                    dsimp only
                    refine hK.out _ wv147 trivial (fun hHeld => ?_)
                    clear hK K
                    (try simp only [Act.put, List.setIfInBounds_toArray, List.set_cons_zero, List.set_cons_succ])
                    refine wpAnyH_take (i := 10) (oi := dxo10) (v := ?_) rfl (by kernel_rfl) (by kernel_rfl) (by kernel_rfl) (fun _ _ _ h => h) (Or.inl ⟨by rfl, ?hy64⟩) (by assumption) ?rest64
                    case hy64 => (intro w' hSw; (try dsimp only at hSw); (try unfold dxo10); go_simp; try with_reducible rfl)
                    (try simp only [Act.put, List.setIfInBounds_toArray, List.set_cons_zero, List.set_cons_succ])
                    refine wpAnyH_ready (rs := [6, 11]) (by kernel_rfl) (by simp) ?_
                    refine AllReadyH.cons (o := dxo6) rfl (fun K hK => ?_) (AllReadyH.cons (o := dxo11) rfl (fun K hK => ?_) AllReadyH.nil)
                    · obtain ⟨zA, hzA⟩ := TA150.out YA hYA
                      (try unfold dxo6)
                      go_simp
                      refine hK.out _ wv147 trivial (fun hHeld => ?_)
                      clear hK K
                      (try simp only [Act.put, List.setIfInBounds_toArray, List.set_cons_zero, List.set_cons_succ])
                      clear hzA
                      refine wpAnyH_ready (rs := [11]) (by kernel_rfl) (by simp) ?_
                      refine AllReadyH.cons (o := dxo11) rfl (fun K hK => ?_) AllReadyH.nil
                      obtain ⟨zB, hzB⟩ := TB151.out YB hYB
                      (try unfold dxo11)
                      go_simp
                      refine hK.out _ wv147 trivial (fun hHeld => ?_)
                      clear hK K
                      (try simp only [Act.put, List.setIfInBounds_toArray, List.set_cons_zero, List.set_cons_succ])
                      clear hzB
                      refine wpAnyH_take (i := 12) (oi := dxo12) (v := ?_) rfl (by kernel_rfl) (by kernel_rfl) (by kernel_rfl) (fun _ _ _ h => h) (Or.inl ⟨by rfl, ?hy65⟩) (by assumption) ?rest65
                      case hy65 => (intro w' hSw; (try dsimp only at hSw); (try unfold dxo12); go_simp; try with_reducible rfl)
                      (try simp only [Act.put, List.setIfInBounds_toArray, List.set_cons_zero, List.set_cons_succ])
                      refine wpAnyH_take (i := 13) (oi := dxo13) (v := ?_) rfl (by kernel_rfl) (by kernel_rfl) (by kernel_rfl) (fun _ _ _ h => h) (Or.inl ⟨by rfl, ?hy66⟩) (by assumption) ?rest66
                      case hy66 => (intro w' hSw; (try dsimp only at hSw); (try unfold dxo13); go_simp; try with_reducible rfl)
                      (try simp only [Act.put, List.setIfInBounds_toArray, List.set_cons_zero, List.set_cons_succ])
                      refine wpAnyH_ready (rs := [14]) (by kernel_rfl) (by simp) ?_
                      refine AllReadyH.cons (o := dxo14) rfl (fun K hK => ?_) AllReadyH.nil
                      obtain ⟨b', cp', hbe, hbw, hcl⟩ := HG148.out.form hm0
                      cases hbe
                      obtain ⟨⟨v0, hv0⟩, hf0⟩ := hcl (KI * 2) (by omega)
                      obtain ⟨⟨v1, hv1⟩, hf1⟩ := hcl (KI * 2 + 1) (by omega)
                      have GF := hide ((HG148.out.set hp HAB.out hbw (KI * 2) zA).set hp HAB.out hbw (KI * 2 + 1) zB)
                      clear hcl
                      (try unfold dxo14)
                      go_simp
                      refine hK.out _ ((wv147.setCell ⟨b, KI * 2, none⟩ (.int .i64 zA)).setCell ⟨b, KI * 2 + 1, none⟩ (.int .i64 zB)) trivial (fun hHeld => ?_)
                      clear hK K
                      (try simp only [Act.put, List.setIfInBounds_toArray, List.set_cons_zero, List.set_cons_succ])
                      refine wpAnyH_done (by kernel_rfl) ?_ _
                      go_wp2_with fail
                      go_meet
                      exact ⟨_, _, rfl, GF.out⟩
                    · obtain ⟨zB, hzB⟩ := TB151.out YB hYB
                      (try unfold dxo11)
                      go_simp
                      refine hK.out _ wv147 trivial (fun hHeld => ?_)
                      clear hK K
                      (try simp only [Act.put, List.setIfInBounds_toArray, List.set_cons_zero, List.set_cons_succ])
                      clear hzB
                      refine wpAnyH_ready (rs := [6]) (by kernel_rfl) (by simp) ?_
                      refine AllReadyH.cons (o := dxo6) rfl (fun K hK => ?_) AllReadyH.nil
                      obtain ⟨zA, hzA⟩ := TA150.out YA hYA
                      (try unfold dxo6)
                      go_simp
                      refine hK.out _ wv147 trivial (fun hHeld => ?_)
                      clear hK K
                      (try simp only [Act.put, List.setIfInBounds_toArray, List.set_cons_zero, List.set_cons_succ])
                      clear hzA
                      refine wpAnyH_take (i := 12) (oi := dxo12) (v := ?_) rfl (by kernel_rfl) (by kernel_rfl) (by kernel_rfl) (fun _ _ _ h => h) (Or.inl ⟨by rfl, ?hy67⟩) (by assumption) ?rest67
                      case hy67 => (intro w' hSw; (try dsimp only at hSw); (try unfold dxo12); go_simp; try with_reducible rfl)
                      (try simp only [Act.put, List.setIfInBounds_toArray, List.set_cons_zero, List.set_cons_succ])
                      refine wpAnyH_take (i := 13) (oi := dxo13) (v := ?_) rfl (by kernel_rfl) (by kernel_rfl) (by kernel_rfl) (fun _ _ _ h => h) (Or.inl ⟨by rfl, ?hy68⟩) (by assumption) ?rest68
                      case hy68 => (intro w' hSw; (try dsimp only at hSw); (try unfold dxo13); go_simp; try with_reducible rfl)
                      (try simp only [Act.put, List.setIfInBounds_toArray, List.set_cons_zero, List.set_cons_succ])
                      refine wpAnyH_ready (rs := [14]) (by kernel_rfl) (by simp) ?_
                      refine AllReadyH.cons (o := dxo14) rfl (fun K hK => ?_) AllReadyH.nil
                      obtain ⟨b', cp', hbe, hbw, hcl⟩ := HG148.out.form hm0
                      cases hbe
                      obtain ⟨⟨v0, hv0⟩, hf0⟩ := hcl (KI * 2) (by omega)
                      obtain ⟨⟨v1, hv1⟩, hf1⟩ := hcl (KI * 2 + 1) (by omega)
                      have GF := hide ((HG148.out.set hp HAB.out hbw (KI * 2) zA).set hp HAB.out hbw (KI * 2 + 1) zB)
                      clear hcl
                      (try unfold dxo14)
                      go_simp
                      refine hK.out _ ((wv147.setCell ⟨b, KI * 2, none⟩ (.int .i64 zA)).setCell ⟨b, KI * 2 + 1, none⟩ (.int .i64 zB)) trivial (fun hHeld => ?_)
                      clear hK K
                      (try simp only [Act.put, List.setIfInBounds_toArray, List.set_cons_zero, List.set_cons_succ])
                      refine wpAnyH_done (by kernel_rfl) ?_ _
                      go_wp2_with fail
                      go_meet
                      exact ⟨_, _, rfl, GF.out⟩
                · (try unfold dxo9)
                  go_simp
                  (with_reducible refine (c4 _ HG133.out.cur).mono ?_)
                  rintro e wv152 ⟨y, rfl, y0, y1, hc, hk154⟩
                  obtain ⟨YB, rfl⟩ : ∃ YB : Nat, y = YB := ⟨y.toNat, by omega⟩
                  have hYB : YB < 4 := by omega
                  have hYBi : (YB : Int) < 4 := by omega
                  have HG153 := hide (HG133.out.next hp hc hk154)
                  have TB155 : Hid (∀ Y, Y < 4 → ∃ z : Int, wv152.cell? ⟨X134, Y, none⟩ = some (.int .i64 z)) := fun Y h => (TB135.out Y h).imp fun z hz => hk154.cell (a := ⟨X134, Y, none⟩) hne136 hz
                  clear hc hk154 y0 y1
                  dsimp only
                  refine hK.out _ wv152 trivial (fun hHeld => ?_)
                  clear hK K
                  (try simp only [Act.put, List.setIfInBounds_toArray, List.set_cons_zero, List.set_cons_succ])
                  refine wpAnyH_take (i := 10) (oi := dxo10) (v := ?_) rfl (by kernel_rfl) (by kernel_rfl) (by kernel_rfl) (fun _ _ _ h => h) (Or.inl ⟨by rfl, ?hy69⟩) (by assumption) ?rest69
                  case hy69 => (intro w' hSw; (try dsimp only at hSw); (try unfold dxo10); go_simp; try with_reducible rfl)
                  (try simp only [Act.put, List.setIfInBounds_toArray, List.set_cons_zero, List.set_cons_succ])
                  refine wpAnyH_ready (rs := [2, 11]) (by kernel_rfl) (by simp) ?_
                  refine AllReadyH.cons (o := dxo2) rfl (fun K hK => ?_) (AllReadyH.cons (o := dxo11) rfl (fun K hK => ?_) AllReadyH.nil)
                  · (try unfold dxo2)
                    go_simp
                    have HG157 := hide (HG153.out.next hp (HG153.out.cur.below (bnew wv152 (.cells #[.int .i64 (-1), .int .i64 31, .int .i64 32] 2))) (Kept.of_below (bnew wv152 (.cells #[.int .i64 (-1), .int .i64 31, .int .i64 32] 2))))
                    have TA159 : Hid (∀ Y, Y < 3 → ∃ z : Int, (wv152.alloc (.cells #[.int .i64 (-1), .int .i64 31, .int .i64 32] 2)).cell? ⟨wv152.heap.size, Y, none⟩ = some (.int .i64 z)) := fun Y h => lit3 (w := wv152) Y h
                    have hne160 : wv152.heap.size ≠ p := by have := HG153.out.kept.size; omega
                    have TB161 : Hid (∀ Y, Y < 4 → ∃ z : Int, (wv152.alloc (.cells #[.int .i64 (-1), .int .i64 31, .int .i64 32] 2)).cell? ⟨X134, Y, none⟩ = some (.int .i64 z)) := fun Y h => (TB155.out Y h).imp fun z hz => cell_up (bnew wv152 (.cells #[.int .i64 (-1), .int .i64 31, .int .i64 32] 2)) hz
                    refine hK.out _ (wv152.alloc (.cells #[.int .i64 (-1), .int .i64 31, .int .i64 32] 2)) trivial (fun hHeld => ?_)
                    clear hK K
                    (try simp only [Act.put, List.setIfInBounds_toArray, List.set_cons_zero, List.set_cons_succ])
                    generalize hgwv156 : wv152.alloc (.cells #[.int .i64 (-1), .int .i64 31, .int .i64 32] 2) = wv156 at *
                    clear hgwv156
                    generalize hqwv156 : wv152.heap.size = X158 at *
                    clear hqwv156
                    refine wpAnyH_take (i := 5) (oi := dxo5) (v := ?_) rfl (by kernel_rfl) (by kernel_rfl) (by kernel_rfl) (fun _ _ _ h => h) (Or.inl ⟨by rfl, ?hy70⟩) (by assumption) ?rest70
                    case hy70 => (intro w' hSw; (try dsimp only at hSw); (try unfold dxo5); go_simp; try with_reducible rfl)
                    (try simp only [Act.put, List.setIfInBounds_toArray, List.set_cons_zero, List.set_cons_succ])
                    refine wpAnyH_ready (rs := [6, 11]) (by kernel_rfl) (by simp) ?_
                    refine AllReadyH.cons (o := dxo6) rfl (fun K hK => ?_) (AllReadyH.cons (o := dxo11) rfl (fun K hK => ?_) AllReadyH.nil)
                    · obtain ⟨zA, hzA⟩ := TA159.out YA hYA
                      (try unfold dxo6)
                      go_simp
                      refine hK.out _ wv156 trivial (fun hHeld => ?_)
                      clear hK K
                      (try simp only [Act.put, List.setIfInBounds_toArray, List.set_cons_zero, List.set_cons_succ])
                      clear hzA
                      refine wpAnyH_ready (rs := [11]) (by kernel_rfl) (by simp) ?_
                      refine AllReadyH.cons (o := dxo11) rfl (fun K hK => ?_) AllReadyH.nil
                      obtain ⟨zB, hzB⟩ := TB161.out YB hYB
                      (try unfold dxo11)
                      go_simp
                      refine hK.out _ wv156 trivial (fun hHeld => ?_)
                      clear hK K
                      (try simp only [Act.put, List.setIfInBounds_toArray, List.set_cons_zero, List.set_cons_succ])
                      clear hzB
                      refine wpAnyH_take (i := 12) (oi := dxo12) (v := ?_) rfl (by kernel_rfl) (by kernel_rfl) (by kernel_rfl) (fun _ _ _ h => h) (Or.inl ⟨by rfl, ?hy71⟩) (by assumption) ?rest71
                      case hy71 => (intro w' hSw; (try dsimp only at hSw); (try unfold dxo12); go_simp; try with_reducible rfl)
                      (try simp only [Act.put, List.setIfInBounds_toArray, List.set_cons_zero, List.set_cons_succ])
                      refine wpAnyH_take (i := 13) (oi := dxo13) (v := ?_) rfl (by kernel_rfl) (by kernel_rfl) (by kernel_rfl) (fun _ _ _ h => h) (Or.inl ⟨by rfl, ?hy72⟩) (by assumption) ?rest72
                      case hy72 => (intro w' hSw; (try dsimp only at hSw); (try unfold dxo13); go_simp; try with_reducible rfl)
                      (try simp only [Act.put, List.setIfInBounds_toArray, List.set_cons_zero, List.set_cons_succ])
                      refine wpAnyH_ready (rs := [14]) (by kernel_rfl) (by simp) ?_
                      refine AllReadyH.cons (o := dxo14) rfl (fun K hK => ?_) AllReadyH.nil
                      obtain ⟨b', cp', hbe, hbw, hcl⟩ := HG157.out.form hm0
                      cases hbe
                      obtain ⟨⟨v0, hv0⟩, hf0⟩ := hcl (KI * 2) (by omega)
                      obtain ⟨⟨v1, hv1⟩, hf1⟩ := hcl (KI * 2 + 1) (by omega)
                      have GF := hide ((HG157.out.set hp HAB.out hbw (KI * 2) zA).set hp HAB.out hbw (KI * 2 + 1) zB)
                      clear hcl
                      (try unfold dxo14)
                      go_simp
                      refine hK.out _ ((wv156.setCell ⟨b, KI * 2, none⟩ (.int .i64 zA)).setCell ⟨b, KI * 2 + 1, none⟩ (.int .i64 zB)) trivial (fun hHeld => ?_)
                      clear hK K
                      (try simp only [Act.put, List.setIfInBounds_toArray, List.set_cons_zero, List.set_cons_succ])
                      refine wpAnyH_done (by kernel_rfl) ?_ _
                      go_wp2_with fail
                      go_meet
                      exact ⟨_, _, rfl, GF.out⟩
                    · obtain ⟨zB, hzB⟩ := TB161.out YB hYB
                      (try unfold dxo11)
                      go_simp
                      refine hK.out _ wv156 trivial (fun hHeld => ?_)
                      clear hK K
                      (try simp only [Act.put, List.setIfInBounds_toArray, List.set_cons_zero, List.set_cons_succ])
                      clear hzB
                      refine wpAnyH_ready (rs := [6]) (by kernel_rfl) (by simp) ?_
                      refine AllReadyH.cons (o := dxo6) rfl (fun K hK => ?_) AllReadyH.nil
                      obtain ⟨zA, hzA⟩ := TA159.out YA hYA
                      (try unfold dxo6)
                      go_simp
                      refine hK.out _ wv156 trivial (fun hHeld => ?_)
                      clear hK K
                      (try simp only [Act.put, List.setIfInBounds_toArray, List.set_cons_zero, List.set_cons_succ])
                      clear hzA
                      refine wpAnyH_take (i := 12) (oi := dxo12) (v := ?_) rfl (by kernel_rfl) (by kernel_rfl) (by kernel_rfl) (fun _ _ _ h => h) (Or.inl ⟨by rfl, ?hy73⟩) (by assumption) ?rest73
                      case hy73 => (intro w' hSw; (try dsimp only at hSw); (try unfold dxo12); go_simp; try with_reducible rfl)
                      (try simp only [Act.put, List.setIfInBounds_toArray, List.set_cons_zero, List.set_cons_succ])
                      refine wpAnyH_take (i := 13) (oi := dxo13) (v := ?_) rfl (by kernel_rfl) (by kernel_rfl) (by kernel_rfl) (fun _ _ _ h => h) (Or.inl ⟨by rfl, ?hy74⟩) (by assumption) ?rest74
                      case hy74 => (intro w' hSw; (try dsimp only at hSw); (try unfold dxo13); go_simp; try with_reducible rfl)
                      (try simp only [Act.put, List.setIfInBounds_toArray, List.set_cons_zero, List.set_cons_succ])
                      refine wpAnyH_ready (rs := [14]) (by kernel_rfl) (by simp) ?_
                      refine AllReadyH.cons (o := dxo14) rfl (fun K hK => ?_) AllReadyH.nil
                      obtain ⟨b', cp', hbe, hbw, hcl⟩ := HG157.out.form hm0
                      cases hbe
                      obtain ⟨⟨v0, hv0⟩, hf0⟩ := hcl (KI * 2) (by omega)
                      obtain ⟨⟨v1, hv1⟩, hf1⟩ := hcl (KI * 2 + 1) (by omega)
                      have GF := hide ((HG157.out.set hp HAB.out hbw (KI * 2) zA).set hp HAB.out hbw (KI * 2 + 1) zB)
                      clear hcl
                      (try unfold dxo14)
                      go_simp
                      refine hK.out _ ((wv156.setCell ⟨b, KI * 2, none⟩ (.int .i64 zA)).setCell ⟨b, KI * 2 + 1, none⟩ (.int .i64 zB)) trivial (fun hHeld => ?_)
                      clear hK K
                      (try simp only [Act.put, List.setIfInBounds_toArray, List.set_cons_zero, List.set_cons_succ])
                      refine wpAnyH_done (by kernel_rfl) ?_ _
                      go_wp2_with fail
                      go_meet
                      exact ⟨_, _, rfl, GF.out⟩
                  · obtain ⟨zB, hzB⟩ := TB155.out YB hYB
                    (try unfold dxo11)
                    go_simp
                    refine hK.out _ wv152 trivial (fun hHeld => ?_)
                    clear hK K
                    (try simp only [Act.put, List.setIfInBounds_toArray, List.set_cons_zero, List.set_cons_succ])
                    clear hzB
                    refine wpAnyH_ready (rs := [2]) (by kernel_rfl) (by simp) ?_
                    refine AllReadyH.cons (o := dxo2) rfl (fun K hK => ?_) AllReadyH.nil
                    (try unfold dxo2)
                    go_simp
                    have HG163 := hide (HG153.out.next hp (HG153.out.cur.below (bnew wv152 (.cells #[.int .i64 (-1), .int .i64 31, .int .i64 32] 2))) (Kept.of_below (bnew wv152 (.cells #[.int .i64 (-1), .int .i64 31, .int .i64 32] 2))))
                    have TA165 : Hid (∀ Y, Y < 3 → ∃ z : Int, (wv152.alloc (.cells #[.int .i64 (-1), .int .i64 31, .int .i64 32] 2)).cell? ⟨wv152.heap.size, Y, none⟩ = some (.int .i64 z)) := fun Y h => lit3 (w := wv152) Y h
                    have hne166 : wv152.heap.size ≠ p := by have := HG153.out.kept.size; omega
                    refine hK.out _ (wv152.alloc (.cells #[.int .i64 (-1), .int .i64 31, .int .i64 32] 2)) trivial (fun hHeld => ?_)
                    clear hK K
                    (try simp only [Act.put, List.setIfInBounds_toArray, List.set_cons_zero, List.set_cons_succ])
                    generalize hgwv162 : wv152.alloc (.cells #[.int .i64 (-1), .int .i64 31, .int .i64 32] 2) = wv162 at *
                    clear hgwv162
                    generalize hqwv162 : wv152.heap.size = X164 at *
                    clear hqwv162
                    refine wpAnyH_take (i := 5) (oi := dxo5) (v := ?_) rfl (by kernel_rfl) (by kernel_rfl) (by kernel_rfl) (fun _ _ _ h => h) (Or.inl ⟨by rfl, ?hy75⟩) (by assumption) ?rest75
                    case hy75 => (intro w' hSw; (try dsimp only at hSw); (try unfold dxo5); go_simp; try with_reducible rfl)
                    (try simp only [Act.put, List.setIfInBounds_toArray, List.set_cons_zero, List.set_cons_succ])
                    refine wpAnyH_ready (rs := [6]) (by kernel_rfl) (by simp) ?_
                    refine AllReadyH.cons (o := dxo6) rfl (fun K hK => ?_) AllReadyH.nil
                    obtain ⟨zA, hzA⟩ := TA165.out YA hYA
                    (try unfold dxo6)
                    go_simp
                    refine hK.out _ wv162 trivial (fun hHeld => ?_)
                    clear hK K
                    (try simp only [Act.put, List.setIfInBounds_toArray, List.set_cons_zero, List.set_cons_succ])
                    clear hzA
                    refine wpAnyH_take (i := 12) (oi := dxo12) (v := ?_) rfl (by kernel_rfl) (by kernel_rfl) (by kernel_rfl) (fun _ _ _ h => h) (Or.inl ⟨by rfl, ?hy76⟩) (by assumption) ?rest76
                    case hy76 => (intro w' hSw; (try dsimp only at hSw); (try unfold dxo12); go_simp; try with_reducible rfl)
                    (try simp only [Act.put, List.setIfInBounds_toArray, List.set_cons_zero, List.set_cons_succ])
                    refine wpAnyH_take (i := 13) (oi := dxo13) (v := ?_) rfl (by kernel_rfl) (by kernel_rfl) (by kernel_rfl) (fun _ _ _ h => h) (Or.inl ⟨by rfl, ?hy77⟩) (by assumption) ?rest77
                    case hy77 => (intro w' hSw; (try dsimp only at hSw); (try unfold dxo13); go_simp; try with_reducible rfl)
                    (try simp only [Act.put, List.setIfInBounds_toArray, List.set_cons_zero, List.set_cons_succ])
                    refine wpAnyH_ready (rs := [14]) (by kernel_rfl) (by simp) ?_
                    refine AllReadyH.cons (o := dxo14) rfl (fun K hK => ?_) AllReadyH.nil
                    obtain ⟨b', cp', hbe, hbw, hcl⟩ := HG163.out.form hm0
                    cases hbe
                    obtain ⟨⟨v0, hv0⟩, hf0⟩ := hcl (KI * 2) (by omega)
                    obtain ⟨⟨v1, hv1⟩, hf1⟩ := hcl (KI * 2 + 1) (by omega)
                    have GF := hide ((HG163.out.set hp HAB.out hbw (KI * 2) zA).set hp HAB.out hbw (KI * 2 + 1) zB)
                    clear hcl
                    (try unfold dxo14)
                    go_simp
                    refine hK.out _ ((wv162.setCell ⟨b, KI * 2, none⟩ (.int .i64 zA)).setCell ⟨b, KI * 2 + 1, none⟩ (.int .i64 zB)) trivial (fun hHeld => ?_)
                    clear hK K
                    (try simp only [Act.put, List.setIfInBounds_toArray, List.set_cons_zero, List.set_cons_succ])
                    refine wpAnyH_done (by kernel_rfl) ?_ _
                    go_wp2_with fail
                    go_meet
                    exact ⟨_, _, rfl, GF.out⟩
              · (try unfold dxo9)
                go_simp
                (with_reducible refine (c4 _ HG78.out.cur).mono ?_)
                rintro e wv167 ⟨y, rfl, y0, y1, hc, hk169⟩
                obtain ⟨YB, rfl⟩ : ∃ YB : Nat, y = YB := ⟨y.toNat, by omega⟩
                have hYB : YB < 4 := by omega
                have hYBi : (YB : Int) < 4 := by omega
                have HG168 := hide (HG78.out.next hp hc hk169)
                clear hc hk169 y0 y1
                dsimp only
                refine hK.out _ wv167 trivial (fun hHeld => ?_)
                clear hK K
                (try simp only [Act.put, List.setIfInBounds_toArray, List.set_cons_zero, List.set_cons_succ])
                refine wpAnyH_ready (rs := [2, 7]) (by kernel_rfl) (by simp) ?_
                refine AllReadyH.cons (o := dxo2) rfl (fun K hK => ?_) (AllReadyH.cons (o := dxo7) rfl (fun K hK => ?_) AllReadyH.nil)
                · (try unfold dxo2)
                  go_simp
                  have HG171 := hide (HG168.out.next hp (HG168.out.cur.below (bnew wv167 (.cells #[.int .i64 (-1), .int .i64 31, .int .i64 32] 2))) (Kept.of_below (bnew wv167 (.cells #[.int .i64 (-1), .int .i64 31, .int .i64 32] 2))))
                  have TA173 : Hid (∀ Y, Y < 3 → ∃ z : Int, (wv167.alloc (.cells #[.int .i64 (-1), .int .i64 31, .int .i64 32] 2)).cell? ⟨wv167.heap.size, Y, none⟩ = some (.int .i64 z)) := fun Y h => lit3 (w := wv167) Y h
                  have hne174 : wv167.heap.size ≠ p := by have := HG168.out.kept.size; omega
                  refine hK.out _ (wv167.alloc (.cells #[.int .i64 (-1), .int .i64 31, .int .i64 32] 2)) trivial (fun hHeld => ?_)
                  clear hK K
                  (try simp only [Act.put, List.setIfInBounds_toArray, List.set_cons_zero, List.set_cons_succ])
                  generalize hgwv170 : wv167.alloc (.cells #[.int .i64 (-1), .int .i64 31, .int .i64 32] 2) = wv170 at *
                  clear hgwv170
                  generalize hqwv170 : wv167.heap.size = X172 at *
                  clear hqwv170
                  refine wpAnyH_take (i := 5) (oi := dxo5) (v := ?_) rfl (by kernel_rfl) (by kernel_rfl) (by kernel_rfl) (fun _ _ _ h => h) (Or.inl ⟨by rfl, ?hy78⟩) (by assumption) ?rest78
                  case hy78 => (intro w' hSw; (try dsimp only at hSw); (try unfold dxo5); go_simp; try with_reducible rfl)
                  (try simp only [Act.put, List.setIfInBounds_toArray, List.set_cons_zero, List.set_cons_succ])
                  refine wpAnyH_ready (rs := [6, 7]) (by kernel_rfl) (by simp) ?_
                  refine AllReadyH.cons (o := dxo6) rfl (fun K hK => ?_) (AllReadyH.cons (o := dxo7) rfl (fun K hK => ?_) AllReadyH.nil)
                  · obtain ⟨zA, hzA⟩ := TA173.out YA hYA
                    (try unfold dxo6)
                    go_simp
                    refine hK.out _ wv170 trivial (fun hHeld => ?_)
                    clear hK K
                    (try simp only [Act.put, List.setIfInBounds_toArray, List.set_cons_zero, List.set_cons_succ])
                    clear hzA
                    refine wpAnyH_ready (rs := [7]) (by kernel_rfl) (by simp) ?_
                    refine AllReadyH.cons (o := dxo7) rfl (fun K hK => ?_) AllReadyH.nil
                    (try unfold dxo7)
                    go_simp
                    have HG176 := hide (HG171.out.next hp (HG171.out.cur.below (bnew wv170 (.cells #[.int .i64 (-1), .int .i64 0, .int .i64 1000000, .int .i64 1000001] 2))) (Kept.of_below (bnew wv170 (.cells #[.int .i64 (-1), .int .i64 0, .int .i64 1000000, .int .i64 1000001] 2))))
                    have TB178 : Hid (∀ Y, Y < 4 → ∃ z : Int, (wv170.alloc (.cells #[.int .i64 (-1), .int .i64 0, .int .i64 1000000, .int .i64 1000001] 2)).cell? ⟨wv170.heap.size, Y, none⟩ = some (.int .i64 z)) := fun Y h => lit4 (w := wv170) Y h
                    have hne179 : wv170.heap.size ≠ p := by have := HG171.out.kept.size; omega
                    refine hK.out _ (wv170.alloc (.cells #[.int .i64 (-1), .int .i64 0, .int .i64 1000000, .int .i64 1000001] 2)) trivial (fun hHeld => ?_)
                    clear hK K
                    (try simp only [Act.put, List.setIfInBounds_toArray, List.set_cons_zero, List.set_cons_succ])
                    generalize hgwv175 : wv170.alloc (.cells #[.int .i64 (-1), .int .i64 0, .int .i64 1000000, .int .i64 1000001] 2) = wv175 at *
                    clear hgwv175
                    generalize hqwv175 : wv170.heap.size = X177 at *
                    clear hqwv175
                    refine wpAnyH_take (i := 10) (oi := dxo10) (v := ?_) rfl (by kernel_rfl) (by kernel_rfl) (by kernel_rfl) (fun _ _ _ h => h) (Or.inl ⟨by rfl, ?hy79⟩) (by assumption) ?rest79
                    case hy79 => (intro w' hSw; (try dsimp only at hSw); (try unfold dxo10); go_simp; try with_reducible rfl)
                    (try simp only [Act.put, List.setIfInBounds_toArray, List.set_cons_zero, List.set_cons_succ])
                    refine wpAnyH_ready (rs := [11]) (by kernel_rfl) (by simp) ?_
                    refine AllReadyH.cons (o := dxo11) rfl (fun K hK => ?_) AllReadyH.nil
                    obtain ⟨zB, hzB⟩ := TB178.out YB hYB
                    (try unfold dxo11)
                    go_simp
                    refine hK.out _ wv175 trivial (fun hHeld => ?_)
                    clear hK K
                    (try simp only [Act.put, List.setIfInBounds_toArray, List.set_cons_zero, List.set_cons_succ])
                    clear hzB
                    refine wpAnyH_take (i := 12) (oi := dxo12) (v := ?_) rfl (by kernel_rfl) (by kernel_rfl) (by kernel_rfl) (fun _ _ _ h => h) (Or.inl ⟨by rfl, ?hy80⟩) (by assumption) ?rest80
                    case hy80 => (intro w' hSw; (try dsimp only at hSw); (try unfold dxo12); go_simp; try with_reducible rfl)
                    (try simp only [Act.put, List.setIfInBounds_toArray, List.set_cons_zero, List.set_cons_succ])
                    refine wpAnyH_take (i := 13) (oi := dxo13) (v := ?_) rfl (by kernel_rfl) (by kernel_rfl) (by kernel_rfl) (fun _ _ _ h => h) (Or.inl ⟨by rfl, ?hy81⟩) (by assumption) ?rest81
                    case hy81 => (intro w' hSw; (try dsimp only at hSw); (try unfold dxo13); go_simp; try with_reducible rfl)
                    (try simp only [Act.put, List.setIfInBounds_toArray, List.set_cons_zero, List.set_cons_succ])
                    refine wpAnyH_ready (rs := [14]) (by kernel_rfl) (by simp) ?_
                    refine AllReadyH.cons (o := dxo14) rfl (fun K hK => ?_) AllReadyH.nil
                    obtain ⟨b', cp', hbe, hbw, hcl⟩ := HG176.out.form hm0
                    cases hbe
                    obtain ⟨⟨v0, hv0⟩, hf0⟩ := hcl (KI * 2) (by omega)
                    obtain ⟨⟨v1, hv1⟩, hf1⟩ := hcl (KI * 2 + 1) (by omega)
                    have GF := hide ((HG176.out.set hp HAB.out hbw (KI * 2) zA).set hp HAB.out hbw (KI * 2 + 1) zB)
                    clear hcl
                    (try unfold dxo14)
                    go_simp
                    refine hK.out _ ((wv175.setCell ⟨b, KI * 2, none⟩ (.int .i64 zA)).setCell ⟨b, KI * 2 + 1, none⟩ (.int .i64 zB)) trivial (fun hHeld => ?_)
                    clear hK K
                    (try simp only [Act.put, List.setIfInBounds_toArray, List.set_cons_zero, List.set_cons_succ])
                    refine wpAnyH_done (by kernel_rfl) ?_ _
                    go_wp2_with fail
                    go_meet
                    exact ⟨_, _, rfl, GF.out⟩
                  · (try unfold dxo7)
                    go_simp
                    have HG181 := hide (HG171.out.next hp (HG171.out.cur.below (bnew wv170 (.cells #[.int .i64 (-1), .int .i64 0, .int .i64 1000000, .int .i64 1000001] 2))) (Kept.of_below (bnew wv170 (.cells #[.int .i64 (-1), .int .i64 0, .int .i64 1000000, .int .i64 1000001] 2))))
                    have TB183 : Hid (∀ Y, Y < 4 → ∃ z : Int, (wv170.alloc (.cells #[.int .i64 (-1), .int .i64 0, .int .i64 1000000, .int .i64 1000001] 2)).cell? ⟨wv170.heap.size, Y, none⟩ = some (.int .i64 z)) := fun Y h => lit4 (w := wv170) Y h
                    have hne184 : wv170.heap.size ≠ p := by have := HG171.out.kept.size; omega
                    have TA185 : Hid (∀ Y, Y < 3 → ∃ z : Int, (wv170.alloc (.cells #[.int .i64 (-1), .int .i64 0, .int .i64 1000000, .int .i64 1000001] 2)).cell? ⟨X172, Y, none⟩ = some (.int .i64 z)) := fun Y h => (TA173.out Y h).imp fun z hz => cell_up (bnew wv170 (.cells #[.int .i64 (-1), .int .i64 0, .int .i64 1000000, .int .i64 1000001] 2)) hz
                    refine hK.out _ (wv170.alloc (.cells #[.int .i64 (-1), .int .i64 0, .int .i64 1000000, .int .i64 1000001] 2)) trivial (fun hHeld => ?_)
                    clear hK K
                    (try simp only [Act.put, List.setIfInBounds_toArray, List.set_cons_zero, List.set_cons_succ])
                    generalize hgwv180 : wv170.alloc (.cells #[.int .i64 (-1), .int .i64 0, .int .i64 1000000, .int .i64 1000001] 2) = wv180 at *
                    clear hgwv180
                    generalize hqwv180 : wv170.heap.size = X182 at *
                    clear hqwv180
                    refine wpAnyH_take (i := 10) (oi := dxo10) (v := ?_) rfl (by kernel_rfl) (by kernel_rfl) (by kernel_rfl) (fun _ _ _ h => h) (Or.inl ⟨by rfl, ?hy82⟩) (by assumption) ?rest82
                    case hy82 => (intro w' hSw; (try dsimp only at hSw); (try unfold dxo10); go_simp; try with_reducible rfl)
                    (try simp only [Act.put, List.setIfInBounds_toArray, List.set_cons_zero, List.set_cons_succ])
                    refine wpAnyH_ready (rs := [6, 11]) (by kernel_rfl) (by simp) ?_
                    refine AllReadyH.cons (o := dxo6) rfl (fun K hK => ?_) (AllReadyH.cons (o := dxo11) rfl (fun K hK => ?_) AllReadyH.nil)
                    · obtain ⟨zA, hzA⟩ := TA185.out YA hYA
                      (try unfold dxo6)
                      go_simp
                      refine hK.out _ wv180 trivial (fun hHeld => ?_)
                      clear hK K
                      (try simp only [Act.put, List.setIfInBounds_toArray, List.set_cons_zero, List.set_cons_succ])
                      clear hzA
                      refine wpAnyH_ready (rs := [11]) (by kernel_rfl) (by simp) ?_
                      refine AllReadyH.cons (o := dxo11) rfl (fun K hK => ?_) AllReadyH.nil
                      obtain ⟨zB, hzB⟩ := TB183.out YB hYB
                      (try unfold dxo11)
                      go_simp
                      refine hK.out _ wv180 trivial (fun hHeld => ?_)
                      clear hK K
                      (try simp only [Act.put, List.setIfInBounds_toArray, List.set_cons_zero, List.set_cons_succ])
                      clear hzB
                      refine wpAnyH_take (i := 12) (oi := dxo12) (v := ?_) rfl (by kernel_rfl) (by kernel_rfl) (by kernel_rfl) (fun _ _ _ h => h) (Or.inl ⟨by rfl, ?hy83⟩) (by assumption) ?rest83
                      case hy83 => (intro w' hSw; (try dsimp only at hSw); (try unfold dxo12); go_simp; try with_reducible rfl)
                      (try simp only [Act.put, List.setIfInBounds_toArray, List.set_cons_zero, List.set_cons_succ])
                      refine wpAnyH_take (i := 13) (oi := dxo13) (v := ?_) rfl (by kernel_rfl) (by kernel_rfl) (by kernel_rfl) (fun _ _ _ h => h) (Or.inl ⟨by rfl, ?hy84⟩) (by assumption) ?rest84
                      case hy84 => (intro w' hSw; (try dsimp only at hSw); (try unfold dxo13); go_simp; try with_reducible rfl)
                      (try simp only [Act.put, List.setIfInBounds_toArray, List.set_cons_zero, List.set_cons_succ])
                      refine wpAnyH_ready (rs := [14]) (by kernel_rfl) (by simp) ?_
                      refine AllReadyH.cons (o := dxo14) rfl (fun K hK => ?_) AllReadyH.nil
                      obtain ⟨b', cp', hbe, hbw, hcl⟩ := HG181.out.form hm0
                      cases hbe
                      obtain ⟨⟨v0, hv0⟩, hf0⟩ := hcl (KI * 2) (by omega)
                      obtain ⟨⟨v1, hv1⟩, hf1⟩ := hcl (KI * 2 + 1) (by omega)
                      have GF := hide ((HG181.out.set hp HAB.out hbw (KI * 2) zA).set hp HAB.out hbw (KI * 2 + 1) zB)
                      clear hcl
                      (try unfold dxo14)
                      go_simp
                      refine hK.out _ ((wv180.setCell ⟨b, KI * 2, none⟩ (.int .i64 zA)).setCell ⟨b, KI * 2 + 1, none⟩ (.int .i64 zB)) trivial (fun hHeld => ?_)
                      clear hK K
                      (try simp only [Act.put, List.setIfInBounds_toArray, List.set_cons_zero, List.set_cons_succ])
                      refine wpAnyH_done (by kernel_rfl) ?_ _
                      go_wp2_with fail
                      go_meet
                      exact ⟨_, _, rfl, GF.out⟩
                    · obtain ⟨zB, hzB⟩ := TB183.out YB hYB
                      (try unfold dxo11)
                      go_simp
                      refine hK.out _ wv180 trivial (fun hHeld => ?_)
                      clear hK K
                      (try simp only [Act.put, List.setIfInBounds_toArray, List.set_cons_zero, List.set_cons_succ])
                      clear hzB
                      refine wpAnyH_ready (rs := [6]) (by kernel_rfl) (by simp) ?_
                      refine AllReadyH.cons (o := dxo6) rfl (fun K hK => ?_) AllReadyH.nil
                      obtain ⟨zA, hzA⟩ := TA185.out YA hYA
                      (try unfold dxo6)
                      go_simp
                      refine hK.out _ wv180 trivial (fun hHeld => ?_)
                      clear hK K
                      (try simp only [Act.put, List.setIfInBounds_toArray, List.set_cons_zero, List.set_cons_succ])
                      clear hzA
                      refine wpAnyH_take (i := 12) (oi := dxo12) (v := ?_) rfl (by kernel_rfl) (by kernel_rfl) (by kernel_rfl) (fun _ _ _ h => h) (Or.inl ⟨by rfl, ?hy85⟩) (by assumption) ?rest85
                      case hy85 => (intro w' hSw; (try dsimp only at hSw); (try unfold dxo12); go_simp; try with_reducible rfl)
                      (try simp only [Act.put, List.setIfInBounds_toArray, List.set_cons_zero, List.set_cons_succ])
                      refine wpAnyH_take (i := 13) (oi := dxo13) (v := ?_) rfl (by kernel_rfl) (by kernel_rfl) (by kernel_rfl) (fun _ _ _ h => h) (Or.inl ⟨by rfl, ?hy86⟩) (by assumption) ?rest86
                      case hy86 => (intro w' hSw; (try dsimp only at hSw); (try unfold dxo13); go_simp; try with_reducible rfl)
                      (try simp only [Act.put, List.setIfInBounds_toArray, List.set_cons_zero, List.set_cons_succ])
                      refine wpAnyH_ready (rs := [14]) (by kernel_rfl) (by simp) ?_
                      refine AllReadyH.cons (o := dxo14) rfl (fun K hK => ?_) AllReadyH.nil
                      obtain ⟨b', cp', hbe, hbw, hcl⟩ := HG181.out.form hm0
                      cases hbe
                      obtain ⟨⟨v0, hv0⟩, hf0⟩ := hcl (KI * 2) (by omega)
                      obtain ⟨⟨v1, hv1⟩, hf1⟩ := hcl (KI * 2 + 1) (by omega)
                      have GF := hide ((HG181.out.set hp HAB.out hbw (KI * 2) zA).set hp HAB.out hbw (KI * 2 + 1) zB)
                      clear hcl
                      (try unfold dxo14)
                      go_simp
                      refine hK.out _ ((wv180.setCell ⟨b, KI * 2, none⟩ (.int .i64 zA)).setCell ⟨b, KI * 2 + 1, none⟩ (.int .i64 zB)) trivial (fun hHeld => ?_)
                      clear hK K
                      (try simp only [Act.put, List.setIfInBounds_toArray, List.set_cons_zero, List.set_cons_succ])
                      refine wpAnyH_done (by kernel_rfl) ?_ _
                      go_wp2_with fail
                      go_meet
                      exact ⟨_, _, rfl, GF.out⟩
                · (try unfold dxo7)
                  go_simp
                  have HG187 := hide (HG168.out.next hp (HG168.out.cur.below (bnew wv167 (.cells #[.int .i64 (-1), .int .i64 0, .int .i64 1000000, .int .i64 1000001] 2))) (Kept.of_below (bnew wv167 (.cells #[.int .i64 (-1), .int .i64 0, .int .i64 1000000, .int .i64 1000001] 2))))
                  have TB189 : Hid (∀ Y, Y < 4 → ∃ z : Int, (wv167.alloc (.cells #[.int .i64 (-1), .int .i64 0, .int .i64 1000000, .int .i64 1000001] 2)).cell? ⟨wv167.heap.size, Y, none⟩ = some (.int .i64 z)) := fun Y h => lit4 (w := wv167) Y h
                  have hne190 : wv167.heap.size ≠ p := by have := HG168.out.kept.size; omega
                  refine hK.out _ (wv167.alloc (.cells #[.int .i64 (-1), .int .i64 0, .int .i64 1000000, .int .i64 1000001] 2)) trivial (fun hHeld => ?_)
                  clear hK K
                  (try simp only [Act.put, List.setIfInBounds_toArray, List.set_cons_zero, List.set_cons_succ])
                  generalize hgwv186 : wv167.alloc (.cells #[.int .i64 (-1), .int .i64 0, .int .i64 1000000, .int .i64 1000001] 2) = wv186 at *
                  clear hgwv186
                  generalize hqwv186 : wv167.heap.size = X188 at *
                  clear hqwv186
                  refine wpAnyH_take (i := 10) (oi := dxo10) (v := ?_) rfl (by kernel_rfl) (by kernel_rfl) (by kernel_rfl) (fun _ _ _ h => h) (Or.inl ⟨by rfl, ?hy87⟩) (by assumption) ?rest87
                  case hy87 => (intro w' hSw; (try dsimp only at hSw); (try unfold dxo10); go_simp; try with_reducible rfl)
                  (try simp only [Act.put, List.setIfInBounds_toArray, List.set_cons_zero, List.set_cons_succ])
                  refine wpAnyH_ready (rs := [2, 11]) (by kernel_rfl) (by simp) ?_
                  refine AllReadyH.cons (o := dxo2) rfl (fun K hK => ?_) (AllReadyH.cons (o := dxo11) rfl (fun K hK => ?_) AllReadyH.nil)
                  · (try unfold dxo2)
                    go_simp
                    have HG192 := hide (HG187.out.next hp (HG187.out.cur.below (bnew wv186 (.cells #[.int .i64 (-1), .int .i64 31, .int .i64 32] 2))) (Kept.of_below (bnew wv186 (.cells #[.int .i64 (-1), .int .i64 31, .int .i64 32] 2))))
                    have TA194 : Hid (∀ Y, Y < 3 → ∃ z : Int, (wv186.alloc (.cells #[.int .i64 (-1), .int .i64 31, .int .i64 32] 2)).cell? ⟨wv186.heap.size, Y, none⟩ = some (.int .i64 z)) := fun Y h => lit3 (w := wv186) Y h
                    have hne195 : wv186.heap.size ≠ p := by have := HG187.out.kept.size; omega
                    have TB196 : Hid (∀ Y, Y < 4 → ∃ z : Int, (wv186.alloc (.cells #[.int .i64 (-1), .int .i64 31, .int .i64 32] 2)).cell? ⟨X188, Y, none⟩ = some (.int .i64 z)) := fun Y h => (TB189.out Y h).imp fun z hz => cell_up (bnew wv186 (.cells #[.int .i64 (-1), .int .i64 31, .int .i64 32] 2)) hz
                    refine hK.out _ (wv186.alloc (.cells #[.int .i64 (-1), .int .i64 31, .int .i64 32] 2)) trivial (fun hHeld => ?_)
                    clear hK K
                    (try simp only [Act.put, List.setIfInBounds_toArray, List.set_cons_zero, List.set_cons_succ])
                    generalize hgwv191 : wv186.alloc (.cells #[.int .i64 (-1), .int .i64 31, .int .i64 32] 2) = wv191 at *
                    clear hgwv191
                    generalize hqwv191 : wv186.heap.size = X193 at *
                    clear hqwv191
                    refine wpAnyH_take (i := 5) (oi := dxo5) (v := ?_) rfl (by kernel_rfl) (by kernel_rfl) (by kernel_rfl) (fun _ _ _ h => h) (Or.inl ⟨by rfl, ?hy88⟩) (by assumption) ?rest88
                    case hy88 => (intro w' hSw; (try dsimp only at hSw); (try unfold dxo5); go_simp; try with_reducible rfl)
                    (try simp only [Act.put, List.setIfInBounds_toArray, List.set_cons_zero, List.set_cons_succ])
                    refine wpAnyH_ready (rs := [6, 11]) (by kernel_rfl) (by simp) ?_
                    refine AllReadyH.cons (o := dxo6) rfl (fun K hK => ?_) (AllReadyH.cons (o := dxo11) rfl (fun K hK => ?_) AllReadyH.nil)
                    · obtain ⟨zA, hzA⟩ := TA194.out YA hYA
                      (try unfold dxo6)
                      go_simp
                      refine hK.out _ wv191 trivial (fun hHeld => ?_)
                      clear hK K
                      (try simp only [Act.put, List.setIfInBounds_toArray, List.set_cons_zero, List.set_cons_succ])
                      clear hzA
                      refine wpAnyH_ready (rs := [11]) (by kernel_rfl) (by simp) ?_
                      refine AllReadyH.cons (o := dxo11) rfl (fun K hK => ?_) AllReadyH.nil
                      obtain ⟨zB, hzB⟩ := TB196.out YB hYB
                      (try unfold dxo11)
                      go_simp
                      refine hK.out _ wv191 trivial (fun hHeld => ?_)
                      clear hK K
                      (try simp only [Act.put, List.setIfInBounds_toArray, List.set_cons_zero, List.set_cons_succ])
                      clear hzB
                      refine wpAnyH_take (i := 12) (oi := dxo12) (v := ?_) rfl (by kernel_rfl) (by kernel_rfl) (by kernel_rfl) (fun _ _ _ h => h) (Or.inl ⟨by rfl, ?hy89⟩) (by assumption) ?rest89
                      case hy89 => (intro w' hSw; (try dsimp only at hSw); (try unfold dxo12); go_simp; try with_reducible rfl)
                      (try simp only [Act.put, List.setIfInBounds_toArray, List.set_cons_zero, List.set_cons_succ])
                      refine wpAnyH_take (i := 13) (oi := dxo13) (v := ?_) rfl (by kernel_rfl) (by kernel_rfl) (by kernel_rfl) (fun _ _ _ h => h) (Or.inl ⟨by rfl, ?hy90⟩) (by assumption) ?rest90
                      case hy90 => (intro w' hSw; (try dsimp only at hSw); (try unfold dxo13); go_simp; try with_reducible rfl)
                      (try simp only [Act.put, List.setIfInBounds_toArray, List.set_cons_zero, List.set_cons_succ])
                      refine wpAnyH_ready (rs := [14]) (by kernel_rfl) (by simp) ?_
                      refine AllReadyH.cons (o := dxo14) rfl (fun K hK => ?_) AllReadyH.nil
                      obtain ⟨b', cp', hbe, hbw, hcl⟩ := HG192.out.form hm0
                      cases hbe
                      obtain ⟨⟨v0, hv0⟩, hf0⟩ := hcl (KI * 2) (by omega)
                      obtain ⟨⟨v1, hv1⟩, hf1⟩ := hcl (KI * 2 + 1) (by omega)
                      have GF := hide ((HG192.out.set hp HAB.out hbw (KI * 2) zA).set hp HAB.out hbw (KI * 2 + 1) zB)
                      clear hcl
                      (try unfold dxo14)
                      go_simp
                      refine hK.out _ ((wv191.setCell ⟨b, KI * 2, none⟩ (.int .i64 zA)).setCell ⟨b, KI * 2 + 1, none⟩ (.int .i64 zB)) trivial (fun hHeld => ?_)
                      clear hK K
                      (try simp only [Act.put, List.setIfInBounds_toArray, List.set_cons_zero, List.set_cons_succ])
                      refine wpAnyH_done (by kernel_rfl) ?_ _
                      go_wp2_with fail
                      go_meet
                      exact ⟨_, _, rfl, GF.out⟩
                    · obtain ⟨zB, hzB⟩ := TB196.out YB hYB
                      (try unfold dxo11)
                      go_simp
                      refine hK.out _ wv191 trivial (fun hHeld => ?_)
                      clear hK K
                      (try simp only [Act.put, List.setIfInBounds_toArray, List.set_cons_zero, List.set_cons_succ])
                      clear hzB
                      refine wpAnyH_ready (rs := [6]) (by kernel_rfl) (by simp) ?_
                      refine AllReadyH.cons (o := dxo6) rfl (fun K hK => ?_) AllReadyH.nil
                      obtain ⟨zA, hzA⟩ := TA194.out YA hYA
                      (try unfold dxo6)
                      go_simp
                      refine hK.out _ wv191 trivial (fun hHeld => ?_)
                      clear hK K
                      (try simp only [Act.put, List.setIfInBounds_toArray, List.set_cons_zero, List.set_cons_succ])
                      clear hzA
                      refine wpAnyH_take (i := 12) (oi := dxo12) (v := ?_) rfl (by kernel_rfl) (by kernel_rfl) (by kernel_rfl) (fun _ _ _ h => h) (Or.inl ⟨by rfl, ?hy91⟩) (by assumption) ?rest91
                      case hy91 => (intro w' hSw; (try dsimp only at hSw); (try unfold dxo12); go_simp; try with_reducible rfl)
                      (try simp only [Act.put, List.setIfInBounds_toArray, List.set_cons_zero, List.set_cons_succ])
                      refine wpAnyH_take (i := 13) (oi := dxo13) (v := ?_) rfl (by kernel_rfl) (by kernel_rfl) (by kernel_rfl) (fun _ _ _ h => h) (Or.inl ⟨by rfl, ?hy92⟩) (by assumption) ?rest92
                      case hy92 => (intro w' hSw; (try dsimp only at hSw); (try unfold dxo13); go_simp; try with_reducible rfl)
                      (try simp only [Act.put, List.setIfInBounds_toArray, List.set_cons_zero, List.set_cons_succ])
                      refine wpAnyH_ready (rs := [14]) (by kernel_rfl) (by simp) ?_
                      refine AllReadyH.cons (o := dxo14) rfl (fun K hK => ?_) AllReadyH.nil
                      obtain ⟨b', cp', hbe, hbw, hcl⟩ := HG192.out.form hm0
                      cases hbe
                      obtain ⟨⟨v0, hv0⟩, hf0⟩ := hcl (KI * 2) (by omega)
                      obtain ⟨⟨v1, hv1⟩, hf1⟩ := hcl (KI * 2 + 1) (by omega)
                      have GF := hide ((HG192.out.set hp HAB.out hbw (KI * 2) zA).set hp HAB.out hbw (KI * 2 + 1) zB)
                      clear hcl
                      (try unfold dxo14)
                      go_simp
                      refine hK.out _ ((wv191.setCell ⟨b, KI * 2, none⟩ (.int .i64 zA)).setCell ⟨b, KI * 2 + 1, none⟩ (.int .i64 zB)) trivial (fun hHeld => ?_)
                      clear hK K
                      (try simp only [Act.put, List.setIfInBounds_toArray, List.set_cons_zero, List.set_cons_succ])
                      refine wpAnyH_done (by kernel_rfl) ?_ _
                      go_wp2_with fail
                      go_meet
                      exact ⟨_, _, rfl, GF.out⟩
                  · obtain ⟨zB, hzB⟩ := TB189.out YB hYB
                    (try unfold dxo11)
                    go_simp
                    refine hK.out _ wv186 trivial (fun hHeld => ?_)
                    clear hK K
                    (try simp only [Act.put, List.setIfInBounds_toArray, List.set_cons_zero, List.set_cons_succ])
                    clear hzB
                    refine wpAnyH_ready (rs := [2]) (by kernel_rfl) (by simp) ?_
                    refine AllReadyH.cons (o := dxo2) rfl (fun K hK => ?_) AllReadyH.nil
                    (try unfold dxo2)
                    go_simp
                    have HG198 := hide (HG187.out.next hp (HG187.out.cur.below (bnew wv186 (.cells #[.int .i64 (-1), .int .i64 31, .int .i64 32] 2))) (Kept.of_below (bnew wv186 (.cells #[.int .i64 (-1), .int .i64 31, .int .i64 32] 2))))
                    have TA200 : Hid (∀ Y, Y < 3 → ∃ z : Int, (wv186.alloc (.cells #[.int .i64 (-1), .int .i64 31, .int .i64 32] 2)).cell? ⟨wv186.heap.size, Y, none⟩ = some (.int .i64 z)) := fun Y h => lit3 (w := wv186) Y h
                    have hne201 : wv186.heap.size ≠ p := by have := HG187.out.kept.size; omega
                    refine hK.out _ (wv186.alloc (.cells #[.int .i64 (-1), .int .i64 31, .int .i64 32] 2)) trivial (fun hHeld => ?_)
                    clear hK K
                    (try simp only [Act.put, List.setIfInBounds_toArray, List.set_cons_zero, List.set_cons_succ])
                    generalize hgwv197 : wv186.alloc (.cells #[.int .i64 (-1), .int .i64 31, .int .i64 32] 2) = wv197 at *
                    clear hgwv197
                    generalize hqwv197 : wv186.heap.size = X199 at *
                    clear hqwv197
                    refine wpAnyH_take (i := 5) (oi := dxo5) (v := ?_) rfl (by kernel_rfl) (by kernel_rfl) (by kernel_rfl) (fun _ _ _ h => h) (Or.inl ⟨by rfl, ?hy93⟩) (by assumption) ?rest93
                    case hy93 => (intro w' hSw; (try dsimp only at hSw); (try unfold dxo5); go_simp; try with_reducible rfl)
                    (try simp only [Act.put, List.setIfInBounds_toArray, List.set_cons_zero, List.set_cons_succ])
                    refine wpAnyH_ready (rs := [6]) (by kernel_rfl) (by simp) ?_
                    refine AllReadyH.cons (o := dxo6) rfl (fun K hK => ?_) AllReadyH.nil
                    obtain ⟨zA, hzA⟩ := TA200.out YA hYA
                    (try unfold dxo6)
                    go_simp
                    refine hK.out _ wv197 trivial (fun hHeld => ?_)
                    clear hK K
                    (try simp only [Act.put, List.setIfInBounds_toArray, List.set_cons_zero, List.set_cons_succ])
                    clear hzA
                    refine wpAnyH_take (i := 12) (oi := dxo12) (v := ?_) rfl (by kernel_rfl) (by kernel_rfl) (by kernel_rfl) (fun _ _ _ h => h) (Or.inl ⟨by rfl, ?hy94⟩) (by assumption) ?rest94
                    case hy94 => (intro w' hSw; (try dsimp only at hSw); (try unfold dxo12); go_simp; try with_reducible rfl)
                    (try simp only [Act.put, List.setIfInBounds_toArray, List.set_cons_zero, List.set_cons_succ])
                    refine wpAnyH_take (i := 13) (oi := dxo13) (v := ?_) rfl (by kernel_rfl) (by kernel_rfl) (by kernel_rfl) (fun _ _ _ h => h) (Or.inl ⟨by rfl, ?hy95⟩) (by assumption) ?rest95
                    case hy95 => (intro w' hSw; (try dsimp only at hSw); (try unfold dxo13); go_simp; try with_reducible rfl)
                    (try simp only [Act.put, List.setIfInBounds_toArray, List.set_cons_zero, List.set_cons_succ])
                    refine wpAnyH_ready (rs := [14]) (by kernel_rfl) (by simp) ?_
                    refine AllReadyH.cons (o := dxo14) rfl (fun K hK => ?_) AllReadyH.nil
                    obtain ⟨b', cp', hbe, hbw, hcl⟩ := HG198.out.form hm0
                    cases hbe
                    obtain ⟨⟨v0, hv0⟩, hf0⟩ := hcl (KI * 2) (by omega)
                    obtain ⟨⟨v1, hv1⟩, hf1⟩ := hcl (KI * 2 + 1) (by omega)
                    have GF := hide ((HG198.out.set hp HAB.out hbw (KI * 2) zA).set hp HAB.out hbw (KI * 2 + 1) zB)
                    clear hcl
                    (try unfold dxo14)
                    go_simp
                    refine hK.out _ ((wv197.setCell ⟨b, KI * 2, none⟩ (.int .i64 zA)).setCell ⟨b, KI * 2 + 1, none⟩ (.int .i64 zB)) trivial (fun hHeld => ?_)
                    clear hK K
                    (try simp only [Act.put, List.setIfInBounds_toArray, List.set_cons_zero, List.set_cons_succ])
                    refine wpAnyH_done (by kernel_rfl) ?_ _
                    go_wp2_with fail
                    go_meet
                    exact ⟨_, _, rfl, GF.out⟩
            · (try unfold dxo7)
              go_simp
              have HG203 := hide (HG0.out.next hp (HG0.out.cur.below (bnew wd (.cells #[.int .i64 (-1), .int .i64 0, .int .i64 1000000, .int .i64 1000001] 2))) (Kept.of_below (bnew wd (.cells #[.int .i64 (-1), .int .i64 0, .int .i64 1000000, .int .i64 1000001] 2))))
              have TB205 : Hid (∀ Y, Y < 4 → ∃ z : Int, (wd.alloc (.cells #[.int .i64 (-1), .int .i64 0, .int .i64 1000000, .int .i64 1000001] 2)).cell? ⟨wd.heap.size, Y, none⟩ = some (.int .i64 z)) := fun Y h => lit4 (w := wd) Y h
              have hne206 : wd.heap.size ≠ p := by have := HG0.out.kept.size; omega
              refine hK.out _ (wd.alloc (.cells #[.int .i64 (-1), .int .i64 0, .int .i64 1000000, .int .i64 1000001] 2)) trivial (fun hHeld => ?_)
              clear hK K
              (try simp only [Act.put, List.setIfInBounds_toArray, List.set_cons_zero, List.set_cons_succ])
              generalize hgwv202 : wd.alloc (.cells #[.int .i64 (-1), .int .i64 0, .int .i64 1000000, .int .i64 1000001] 2) = wv202 at *
              clear hgwv202
              generalize hqwv202 : wd.heap.size = X204 at *
              clear hqwv202
              refine wpAnyH_ready (rs := [2, 4]) (by kernel_rfl) (by simp) ?_
              refine AllReadyH.cons (o := dxo2) rfl (fun K hK => ?_) (AllReadyH.cons (o := dxo4) rfl (fun K hK => ?_) AllReadyH.nil)
              · (try unfold dxo2)
                go_simp
                have HG208 := hide (HG203.out.next hp (HG203.out.cur.below (bnew wv202 (.cells #[.int .i64 (-1), .int .i64 31, .int .i64 32] 2))) (Kept.of_below (bnew wv202 (.cells #[.int .i64 (-1), .int .i64 31, .int .i64 32] 2))))
                have TA210 : Hid (∀ Y, Y < 3 → ∃ z : Int, (wv202.alloc (.cells #[.int .i64 (-1), .int .i64 31, .int .i64 32] 2)).cell? ⟨wv202.heap.size, Y, none⟩ = some (.int .i64 z)) := fun Y h => lit3 (w := wv202) Y h
                have hne211 : wv202.heap.size ≠ p := by have := HG203.out.kept.size; omega
                have TB212 : Hid (∀ Y, Y < 4 → ∃ z : Int, (wv202.alloc (.cells #[.int .i64 (-1), .int .i64 31, .int .i64 32] 2)).cell? ⟨X204, Y, none⟩ = some (.int .i64 z)) := fun Y h => (TB205.out Y h).imp fun z hz => cell_up (bnew wv202 (.cells #[.int .i64 (-1), .int .i64 31, .int .i64 32] 2)) hz
                refine hK.out _ (wv202.alloc (.cells #[.int .i64 (-1), .int .i64 31, .int .i64 32] 2)) trivial (fun hHeld => ?_)
                clear hK K
                (try simp only [Act.put, List.setIfInBounds_toArray, List.set_cons_zero, List.set_cons_succ])
                generalize hgwv207 : wv202.alloc (.cells #[.int .i64 (-1), .int .i64 31, .int .i64 32] 2) = wv207 at *
                clear hgwv207
                generalize hqwv207 : wv202.heap.size = X209 at *
                clear hqwv207
                refine wpAnyH_ready (rs := [4]) (by kernel_rfl) (by simp) ?_
                refine AllReadyH.cons (o := dxo4) rfl (fun K hK => ?_) AllReadyH.nil
                (try unfold dxo4)
                go_simp
                (with_reducible refine (c3 _ HG208.out.cur).mono ?_)
                rintro e wv213 ⟨y, rfl, y0, y1, hc, hk215⟩
                obtain ⟨YA, rfl⟩ : ∃ YA : Nat, y = YA := ⟨y.toNat, by omega⟩
                have hYA : YA < 3 := by omega
                have hYAi : (YA : Int) < 3 := by omega
                have HG214 := hide (HG208.out.next hp hc hk215)
                have TA216 : Hid (∀ Y, Y < 3 → ∃ z : Int, wv213.cell? ⟨X209, Y, none⟩ = some (.int .i64 z)) := fun Y h => (TA210.out Y h).imp fun z hz => hk215.cell (a := ⟨X209, Y, none⟩) hne211 hz
                have TB217 : Hid (∀ Y, Y < 4 → ∃ z : Int, wv213.cell? ⟨X204, Y, none⟩ = some (.int .i64 z)) := fun Y h => (TB212.out Y h).imp fun z hz => hk215.cell (a := ⟨X204, Y, none⟩) hne206 hz
                clear hc hk215 y0 y1
                dsimp only
                refine hK.out _ wv213 trivial (fun hHeld => ?_)
                clear hK K
                (try simp only [Act.put, List.setIfInBounds_toArray, List.set_cons_zero, List.set_cons_succ])
                refine wpAnyH_take (i := 5) (oi := dxo5) (v := ?_) rfl (by kernel_rfl) (by kernel_rfl) (by kernel_rfl) (fun _ _ _ h => h) (Or.inl ⟨by rfl, ?hy96⟩) (by assumption) ?rest96
                case hy96 => (intro w' hSw; (try dsimp only at hSw); (try unfold dxo5); go_simp; try with_reducible rfl)
                (try simp only [Act.put, List.setIfInBounds_toArray, List.set_cons_zero, List.set_cons_succ])
                refine wpAnyH_ready (rs := [6, 9]) (by kernel_rfl) (by simp) ?_
                refine AllReadyH.cons (o := dxo6) rfl (fun K hK => ?_) (AllReadyH.cons (o := dxo9) rfl (fun K hK => ?_) AllReadyH.nil)
                · obtain ⟨zA, hzA⟩ := TA216.out YA hYA
                  (try unfold dxo6)
                  go_simp
                  refine hK.out _ wv213 trivial (fun hHeld => ?_)
                  clear hK K
                  (try simp only [Act.put, List.setIfInBounds_toArray, List.set_cons_zero, List.set_cons_succ])
                  clear hzA
                  refine wpAnyH_ready (rs := [9]) (by kernel_rfl) (by simp) ?_
                  refine AllReadyH.cons (o := dxo9) rfl (fun K hK => ?_) AllReadyH.nil
                  (try unfold dxo9)
                  go_simp
                  (with_reducible refine (c4 _ HG214.out.cur).mono ?_)
                  rintro e wv218 ⟨y, rfl, y0, y1, hc, hk220⟩
                  obtain ⟨YB, rfl⟩ : ∃ YB : Nat, y = YB := ⟨y.toNat, by omega⟩
                  have hYB : YB < 4 := by omega
                  have hYBi : (YB : Int) < 4 := by omega
                  have HG219 := hide (HG214.out.next hp hc hk220)
                  have TB221 : Hid (∀ Y, Y < 4 → ∃ z : Int, wv218.cell? ⟨X204, Y, none⟩ = some (.int .i64 z)) := fun Y h => (TB217.out Y h).imp fun z hz => hk220.cell (a := ⟨X204, Y, none⟩) hne206 hz
                  clear hc hk220 y0 y1
                  dsimp only
                  refine hK.out _ wv218 trivial (fun hHeld => ?_)
                  clear hK K
                  (try simp only [Act.put, List.setIfInBounds_toArray, List.set_cons_zero, List.set_cons_succ])
                  refine wpAnyH_take (i := 10) (oi := dxo10) (v := ?_) rfl (by kernel_rfl) (by kernel_rfl) (by kernel_rfl) (fun _ _ _ h => h) (Or.inl ⟨by rfl, ?hy97⟩) (by assumption) ?rest97
                  case hy97 => (intro w' hSw; (try dsimp only at hSw); (try unfold dxo10); go_simp; try with_reducible rfl)
                  (try simp only [Act.put, List.setIfInBounds_toArray, List.set_cons_zero, List.set_cons_succ])
                  refine wpAnyH_ready (rs := [11]) (by kernel_rfl) (by simp) ?_
                  refine AllReadyH.cons (o := dxo11) rfl (fun K hK => ?_) AllReadyH.nil
                  obtain ⟨zB, hzB⟩ := TB221.out YB hYB
                  (try unfold dxo11)
                  go_simp
                  refine hK.out _ wv218 trivial (fun hHeld => ?_)
                  clear hK K
                  (try simp only [Act.put, List.setIfInBounds_toArray, List.set_cons_zero, List.set_cons_succ])
                  clear hzB
                  refine wpAnyH_take (i := 12) (oi := dxo12) (v := ?_) rfl (by kernel_rfl) (by kernel_rfl) (by kernel_rfl) (fun _ _ _ h => h) (Or.inl ⟨by rfl, ?hy98⟩) (by assumption) ?rest98
                  case hy98 => (intro w' hSw; (try dsimp only at hSw); (try unfold dxo12); go_simp; try with_reducible rfl)
                  (try simp only [Act.put, List.setIfInBounds_toArray, List.set_cons_zero, List.set_cons_succ])
                  refine wpAnyH_take (i := 13) (oi := dxo13) (v := ?_) rfl (by kernel_rfl) (by kernel_rfl) (by kernel_rfl) (fun _ _ _ h => h) (Or.inl ⟨by rfl, ?hy99⟩) (by assumption) ?rest99
                  case hy99 => (intro w' hSw; (try dsimp only at hSw); (try unfold dxo13); go_simp; try with_reducible rfl)
                  (try simp only [Act.put, List.setIfInBounds_toArray, List.set_cons_zero, List.set_cons_succ])
                  refine wpAnyH_ready (rs := [14]) (by kernel_rfl) (by simp) ?_
                  refine AllReadyH.cons (o := dxo14) rfl (fun K hK => ?_) AllReadyH.nil
                  obtain ⟨b', cp', hbe, hbw, hcl⟩ := HG219.out.form hm0
                  cases hbe
                  obtain ⟨⟨v0, hv0⟩, hf0⟩ := hcl (KI * 2) (by omega)
                  obtain ⟨⟨v1, hv1⟩, hf1⟩ := hcl (KI * 2 + 1) (by omega)
                  have GF := hide ((HG219.out.set hp HAB.out hbw (KI * 2) zA).set hp HAB.out hbw (KI * 2 + 1) zB)
                  clear hcl
                  (try unfold dxo14)
                  go_simp
                  refine hK.out _ ((wv218.setCell ⟨b, KI * 2, none⟩ (.int .i64 zA)).setCell ⟨b, KI * 2 + 1, none⟩ (.int .i64 zB)) trivial (fun hHeld => ?_)
                  clear hK K
                  (try simp only [Act.put, List.setIfInBounds_toArray, List.set_cons_zero, List.set_cons_succ])
                  refine wpAnyH_done (by kernel_rfl) ?_ _
                  go_wp2_with fail
                  go_meet
                  exact ⟨_, _, rfl, GF.out⟩
                · (try unfold dxo9)
                  go_simp
                  (with_reducible refine (c4 _ HG214.out.cur).mono ?_)
                  rintro e wv222 ⟨y, rfl, y0, y1, hc, hk224⟩
                  obtain ⟨YB, rfl⟩ : ∃ YB : Nat, y = YB := ⟨y.toNat, by omega⟩
                  have hYB : YB < 4 := by omega
                  have hYBi : (YB : Int) < 4 := by omega
                  have HG223 := hide (HG214.out.next hp hc hk224)
                  have TA225 : Hid (∀ Y, Y < 3 → ∃ z : Int, wv222.cell? ⟨X209, Y, none⟩ = some (.int .i64 z)) := fun Y h => (TA216.out Y h).imp fun z hz => hk224.cell (a := ⟨X209, Y, none⟩) hne211 hz
                  have TB226 : Hid (∀ Y, Y < 4 → ∃ z : Int, wv222.cell? ⟨X204, Y, none⟩ = some (.int .i64 z)) := fun Y h => (TB217.out Y h).imp fun z hz => hk224.cell (a := ⟨X204, Y, none⟩) hne206 hz
                  clear hc hk224 y0 y1
                  dsimp only
                  refine hK.out _ wv222 trivial (fun hHeld => ?_)
                  clear hK K
                  (try simp only [Act.put, List.setIfInBounds_toArray, List.set_cons_zero, List.set_cons_succ])
                  refine wpAnyH_take (i := 10) (oi := dxo10) (v := ?_) rfl (by kernel_rfl) (by kernel_rfl) (by kernel_rfl) (fun _ _ _ h => h) (Or.inl ⟨by rfl, ?hy100⟩) (by assumption) ?rest100
                  case hy100 => (intro w' hSw; (try dsimp only at hSw); (try unfold dxo10); go_simp; try with_reducible rfl)
                  (try simp only [Act.put, List.setIfInBounds_toArray, List.set_cons_zero, List.set_cons_succ])
                  refine wpAnyH_ready (rs := [6, 11]) (by kernel_rfl) (by simp) ?_
                  refine AllReadyH.cons (o := dxo6) rfl (fun K hK => ?_) (AllReadyH.cons (o := dxo11) rfl (fun K hK => ?_) AllReadyH.nil)
                  · obtain ⟨zA, hzA⟩ := TA225.out YA hYA
                    (try unfold dxo6)
                    go_simp
                    refine hK.out _ wv222 trivial (fun hHeld => ?_)
                    clear hK K
                    (try simp only [Act.put, List.setIfInBounds_toArray, List.set_cons_zero, List.set_cons_succ])
                    clear hzA
                    refine wpAnyH_ready (rs := [11]) (by kernel_rfl) (by simp) ?_
                    refine AllReadyH.cons (o := dxo11) rfl (fun K hK => ?_) AllReadyH.nil
                    obtain ⟨zB, hzB⟩ := TB226.out YB hYB
                    (try unfold dxo11)
                    go_simp
                    refine hK.out _ wv222 trivial (fun hHeld => ?_)
                    clear hK K
                    (try simp only [Act.put, List.setIfInBounds_toArray, List.set_cons_zero, List.set_cons_succ])
                    clear hzB
                    refine wpAnyH_take (i := 12) (oi := dxo12) (v := ?_) rfl (by kernel_rfl) (by kernel_rfl) (by kernel_rfl) (fun _ _ _ h => h) (Or.inl ⟨by rfl, ?hy101⟩) (by assumption) ?rest101
                    case hy101 => (intro w' hSw; (try dsimp only at hSw); (try unfold dxo12); go_simp; try with_reducible rfl)
                    (try simp only [Act.put, List.setIfInBounds_toArray, List.set_cons_zero, List.set_cons_succ])
                    refine wpAnyH_take (i := 13) (oi := dxo13) (v := ?_) rfl (by kernel_rfl) (by kernel_rfl) (by kernel_rfl) (fun _ _ _ h => h) (Or.inl ⟨by rfl, ?hy102⟩) (by assumption) ?rest102
                    case hy102 => (intro w' hSw; (try dsimp only at hSw); (try unfold dxo13); go_simp; try with_reducible rfl)
                    (try simp only [Act.put, List.setIfInBounds_toArray, List.set_cons_zero, List.set_cons_succ])
                    refine wpAnyH_ready (rs := [14]) (by kernel_rfl) (by simp) ?_
                    refine AllReadyH.cons (o := dxo14) rfl (fun K hK => ?_) AllReadyH.nil
                    obtain ⟨b', cp', hbe, hbw, hcl⟩ := HG223.out.form hm0
                    cases hbe
                    obtain ⟨⟨v0, hv0⟩, hf0⟩ := hcl (KI * 2) (by omega)
                    obtain ⟨⟨v1, hv1⟩, hf1⟩ := hcl (KI * 2 + 1) (by omega)
                    have GF := hide ((HG223.out.set hp HAB.out hbw (KI * 2) zA).set hp HAB.out hbw (KI * 2 + 1) zB)
                    clear hcl
                    (try unfold dxo14)
                    go_simp
                    refine hK.out _ ((wv222.setCell ⟨b, KI * 2, none⟩ (.int .i64 zA)).setCell ⟨b, KI * 2 + 1, none⟩ (.int .i64 zB)) trivial (fun hHeld => ?_)
                    clear hK K
                    (try simp only [Act.put, List.setIfInBounds_toArray, List.set_cons_zero, List.set_cons_succ])
                    refine wpAnyH_done (by kernel_rfl) ?_ _
                    go_wp2_with fail
                    go_meet
                    exact ⟨_, _, rfl, GF.out⟩
                  · obtain ⟨zB, hzB⟩ := TB226.out YB hYB
                    (try unfold dxo11)
                    go_simp
                    refine hK.out _ wv222 trivial (fun hHeld => ?_)
                    clear hK K
                    (try simp only [Act.put, List.setIfInBounds_toArray, List.set_cons_zero, List.set_cons_succ])
                    clear hzB
                    refine wpAnyH_ready (rs := [6]) (by kernel_rfl) (by simp) ?_
                    refine AllReadyH.cons (o := dxo6) rfl (fun K hK => ?_) AllReadyH.nil
                    obtain ⟨zA, hzA⟩ := TA225.out YA hYA
                    (try unfold dxo6)
                    go_simp
                    refine hK.out _ wv222 trivial (fun hHeld => ?_)
                    clear hK K
                    (try simp only [Act.put, List.setIfInBounds_toArray, List.set_cons_zero, List.set_cons_succ])
                    clear hzA
                    refine wpAnyH_take (i := 12) (oi := dxo12) (v := ?_) rfl (by kernel_rfl) (by kernel_rfl) (by kernel_rfl) (fun _ _ _ h => h) (Or.inl ⟨by rfl, ?hy103⟩) (by assumption) ?rest103
                    case hy103 => (intro w' hSw; (try dsimp only at hSw); (try unfold dxo12); go_simp; try with_reducible rfl)
                    (try simp only [Act.put, List.setIfInBounds_toArray, List.set_cons_zero, List.set_cons_succ])
                    refine wpAnyH_take (i := 13) (oi := dxo13) (v := ?_) rfl (by kernel_rfl) (by kernel_rfl) (by kernel_rfl) (fun _ _ _ h => h) (Or.inl ⟨by rfl, ?hy104⟩) (by assumption) ?rest104
                    case hy104 => (intro w' hSw; (try dsimp only at hSw); (try unfold dxo13); go_simp; try with_reducible rfl)
                    (try simp only [Act.put, List.setIfInBounds_toArray, List.set_cons_zero, List.set_cons_succ])
                    refine wpAnyH_ready (rs := [14]) (by kernel_rfl) (by simp) ?_
                    refine AllReadyH.cons (o := dxo14) rfl (fun K hK => ?_) AllReadyH.nil
                    obtain ⟨b', cp', hbe, hbw, hcl⟩ := HG223.out.form hm0
                    cases hbe
                    obtain ⟨⟨v0, hv0⟩, hf0⟩ := hcl (KI * 2) (by omega)
                    obtain ⟨⟨v1, hv1⟩, hf1⟩ := hcl (KI * 2 + 1) (by omega)
                    have GF := hide ((HG223.out.set hp HAB.out hbw (KI * 2) zA).set hp HAB.out hbw (KI * 2 + 1) zB)
                    clear hcl
                    (try unfold dxo14)
                    go_simp
                    refine hK.out _ ((wv222.setCell ⟨b, KI * 2, none⟩ (.int .i64 zA)).setCell ⟨b, KI * 2 + 1, none⟩ (.int .i64 zB)) trivial (fun hHeld => ?_)
                    clear hK K
                    (try simp only [Act.put, List.setIfInBounds_toArray, List.set_cons_zero, List.set_cons_succ])
                    refine wpAnyH_done (by kernel_rfl) ?_ _
                    go_wp2_with fail
                    go_meet
                    exact ⟨_, _, rfl, GF.out⟩
              · (try unfold dxo4)
                go_simp
                (with_reducible refine (c3 _ HG203.out.cur).mono ?_)
                rintro e wv227 ⟨y, rfl, y0, y1, hc, hk229⟩
                obtain ⟨YA, rfl⟩ : ∃ YA : Nat, y = YA := ⟨y.toNat, by omega⟩
                have hYA : YA < 3 := by omega
                have hYAi : (YA : Int) < 3 := by omega
                have HG228 := hide (HG203.out.next hp hc hk229)
                have TB230 : Hid (∀ Y, Y < 4 → ∃ z : Int, wv227.cell? ⟨X204, Y, none⟩ = some (.int .i64 z)) := fun Y h => (TB205.out Y h).imp fun z hz => hk229.cell (a := ⟨X204, Y, none⟩) hne206 hz
                clear hc hk229 y0 y1
                dsimp only
                refine hK.out _ wv227 trivial (fun hHeld => ?_)
                clear hK K
                (try simp only [Act.put, List.setIfInBounds_toArray, List.set_cons_zero, List.set_cons_succ])
                refine wpAnyH_ready (rs := [2, 9]) (by kernel_rfl) (by simp) ?_
                refine AllReadyH.cons (o := dxo2) rfl (fun K hK => ?_) (AllReadyH.cons (o := dxo9) rfl (fun K hK => ?_) AllReadyH.nil)
                · (try unfold dxo2)
                  go_simp
                  have HG232 := hide (HG228.out.next hp (HG228.out.cur.below (bnew wv227 (.cells #[.int .i64 (-1), .int .i64 31, .int .i64 32] 2))) (Kept.of_below (bnew wv227 (.cells #[.int .i64 (-1), .int .i64 31, .int .i64 32] 2))))
                  have TA234 : Hid (∀ Y, Y < 3 → ∃ z : Int, (wv227.alloc (.cells #[.int .i64 (-1), .int .i64 31, .int .i64 32] 2)).cell? ⟨wv227.heap.size, Y, none⟩ = some (.int .i64 z)) := fun Y h => lit3 (w := wv227) Y h
                  have hne235 : wv227.heap.size ≠ p := by have := HG228.out.kept.size; omega
                  have TB236 : Hid (∀ Y, Y < 4 → ∃ z : Int, (wv227.alloc (.cells #[.int .i64 (-1), .int .i64 31, .int .i64 32] 2)).cell? ⟨X204, Y, none⟩ = some (.int .i64 z)) := fun Y h => (TB230.out Y h).imp fun z hz => cell_up (bnew wv227 (.cells #[.int .i64 (-1), .int .i64 31, .int .i64 32] 2)) hz
                  refine hK.out _ (wv227.alloc (.cells #[.int .i64 (-1), .int .i64 31, .int .i64 32] 2)) trivial (fun hHeld => ?_)
                  clear hK K
                  (try simp only [Act.put, List.setIfInBounds_toArray, List.set_cons_zero, List.set_cons_succ])
                  generalize hgwv231 : wv227.alloc (.cells #[.int .i64 (-1), .int .i64 31, .int .i64 32] 2) = wv231 at *
                  clear hgwv231
                  generalize hqwv231 : wv227.heap.size = X233 at *
                  clear hqwv231
                  refine wpAnyH_take (i := 5) (oi := dxo5) (v := ?_) rfl (by kernel_rfl) (by kernel_rfl) (by kernel_rfl) (fun _ _ _ h => h) (Or.inl ⟨by rfl, ?hy105⟩) (by assumption) ?rest105
                  case hy105 => (intro w' hSw; (try dsimp only at hSw); (try unfold dxo5); go_simp; try with_reducible rfl)
                  (try simp only [Act.put, List.setIfInBounds_toArray, List.set_cons_zero, List.set_cons_succ])
                  refine wpAnyH_ready (rs := [6, 9]) (by kernel_rfl) (by simp) ?_
                  refine AllReadyH.cons (o := dxo6) rfl (fun K hK => ?_) (AllReadyH.cons (o := dxo9) rfl (fun K hK => ?_) AllReadyH.nil)
                  · obtain ⟨zA, hzA⟩ := TA234.out YA hYA
                    (try unfold dxo6)
                    go_simp
                    refine hK.out _ wv231 trivial (fun hHeld => ?_)
                    clear hK K
                    (try simp only [Act.put, List.setIfInBounds_toArray, List.set_cons_zero, List.set_cons_succ])
                    clear hzA
                    refine wpAnyH_ready (rs := [9]) (by kernel_rfl) (by simp) ?_
                    refine AllReadyH.cons (o := dxo9) rfl (fun K hK => ?_) AllReadyH.nil
                    (try unfold dxo9)
                    go_simp
                    (with_reducible refine (c4 _ HG232.out.cur).mono ?_)
                    rintro e wv237 ⟨y, rfl, y0, y1, hc, hk239⟩
                    obtain ⟨YB, rfl⟩ : ∃ YB : Nat, y = YB := ⟨y.toNat, by omega⟩
                    have hYB : YB < 4 := by omega
                    have hYBi : (YB : Int) < 4 := by omega
                    have HG238 := hide (HG232.out.next hp hc hk239)
                    have TB240 : Hid (∀ Y, Y < 4 → ∃ z : Int, wv237.cell? ⟨X204, Y, none⟩ = some (.int .i64 z)) := fun Y h => (TB236.out Y h).imp fun z hz => hk239.cell (a := ⟨X204, Y, none⟩) hne206 hz
                    clear hc hk239 y0 y1
                    dsimp only
                    refine hK.out _ wv237 trivial (fun hHeld => ?_)
                    clear hK K
                    (try simp only [Act.put, List.setIfInBounds_toArray, List.set_cons_zero, List.set_cons_succ])
                    refine wpAnyH_take (i := 10) (oi := dxo10) (v := ?_) rfl (by kernel_rfl) (by kernel_rfl) (by kernel_rfl) (fun _ _ _ h => h) (Or.inl ⟨by rfl, ?hy106⟩) (by assumption) ?rest106
                    case hy106 => (intro w' hSw; (try dsimp only at hSw); (try unfold dxo10); go_simp; try with_reducible rfl)
                    (try simp only [Act.put, List.setIfInBounds_toArray, List.set_cons_zero, List.set_cons_succ])
                    refine wpAnyH_ready (rs := [11]) (by kernel_rfl) (by simp) ?_
                    refine AllReadyH.cons (o := dxo11) rfl (fun K hK => ?_) AllReadyH.nil
                    obtain ⟨zB, hzB⟩ := TB240.out YB hYB
                    (try unfold dxo11)
                    go_simp
                    refine hK.out _ wv237 trivial (fun hHeld => ?_)
                    clear hK K
                    (try simp only [Act.put, List.setIfInBounds_toArray, List.set_cons_zero, List.set_cons_succ])
                    clear hzB
                    refine wpAnyH_take (i := 12) (oi := dxo12) (v := ?_) rfl (by kernel_rfl) (by kernel_rfl) (by kernel_rfl) (fun _ _ _ h => h) (Or.inl ⟨by rfl, ?hy107⟩) (by assumption) ?rest107
                    case hy107 => (intro w' hSw; (try dsimp only at hSw); (try unfold dxo12); go_simp; try with_reducible rfl)
                    (try simp only [Act.put, List.setIfInBounds_toArray, List.set_cons_zero, List.set_cons_succ])
                    refine wpAnyH_take (i := 13) (oi := dxo13) (v := ?_) rfl (by kernel_rfl) (by kernel_rfl) (by kernel_rfl) (fun _ _ _ h => h) (Or.inl ⟨by rfl, ?hy108⟩) (by assumption) ?rest108
                    case hy108 => (intro w' hSw; (try dsimp only at hSw); (try unfold dxo13); go_simp; try with_reducible rfl)
                    (try simp only [Act.put, List.setIfInBounds_toArray, List.set_cons_zero, List.set_cons_succ])
                    refine wpAnyH_ready (rs := [14]) (by kernel_rfl) (by simp) ?_
                    refine AllReadyH.cons (o := dxo14) rfl (fun K hK => ?_) AllReadyH.nil
                    obtain ⟨b', cp', hbe, hbw, hcl⟩ := HG238.out.form hm0
                    cases hbe
                    obtain ⟨⟨v0, hv0⟩, hf0⟩ := hcl (KI * 2) (by omega)
                    obtain ⟨⟨v1, hv1⟩, hf1⟩ := hcl (KI * 2 + 1) (by omega)
                    have GF := hide ((HG238.out.set hp HAB.out hbw (KI * 2) zA).set hp HAB.out hbw (KI * 2 + 1) zB)
                    clear hcl
                    (try unfold dxo14)
                    go_simp
                    refine hK.out _ ((wv237.setCell ⟨b, KI * 2, none⟩ (.int .i64 zA)).setCell ⟨b, KI * 2 + 1, none⟩ (.int .i64 zB)) trivial (fun hHeld => ?_)
                    clear hK K
                    (try simp only [Act.put, List.setIfInBounds_toArray, List.set_cons_zero, List.set_cons_succ])
                    refine wpAnyH_done (by kernel_rfl) ?_ _
                    go_wp2_with fail
                    go_meet
                    exact ⟨_, _, rfl, GF.out⟩
                  · (try unfold dxo9)
                    go_simp
                    (with_reducible refine (c4 _ HG232.out.cur).mono ?_)
                    rintro e wv241 ⟨y, rfl, y0, y1, hc, hk243⟩
                    obtain ⟨YB, rfl⟩ : ∃ YB : Nat, y = YB := ⟨y.toNat, by omega⟩
                    have hYB : YB < 4 := by omega
                    have hYBi : (YB : Int) < 4 := by omega
                    have HG242 := hide (HG232.out.next hp hc hk243)
                    have TA244 : Hid (∀ Y, Y < 3 → ∃ z : Int, wv241.cell? ⟨X233, Y, none⟩ = some (.int .i64 z)) := fun Y h => (TA234.out Y h).imp fun z hz => hk243.cell (a := ⟨X233, Y, none⟩) hne235 hz
                    have TB245 : Hid (∀ Y, Y < 4 → ∃ z : Int, wv241.cell? ⟨X204, Y, none⟩ = some (.int .i64 z)) := fun Y h => (TB236.out Y h).imp fun z hz => hk243.cell (a := ⟨X204, Y, none⟩) hne206 hz
                    clear hc hk243 y0 y1
                    dsimp only
                    refine hK.out _ wv241 trivial (fun hHeld => ?_)
                    clear hK K
                    (try simp only [Act.put, List.setIfInBounds_toArray, List.set_cons_zero, List.set_cons_succ])
                    refine wpAnyH_take (i := 10) (oi := dxo10) (v := ?_) rfl (by kernel_rfl) (by kernel_rfl) (by kernel_rfl) (fun _ _ _ h => h) (Or.inl ⟨by rfl, ?hy109⟩) (by assumption) ?rest109
                    case hy109 => (intro w' hSw; (try dsimp only at hSw); (try unfold dxo10); go_simp; try with_reducible rfl)
                    (try simp only [Act.put, List.setIfInBounds_toArray, List.set_cons_zero, List.set_cons_succ])
                    refine wpAnyH_ready (rs := [6, 11]) (by kernel_rfl) (by simp) ?_
                    refine AllReadyH.cons (o := dxo6) rfl (fun K hK => ?_) (AllReadyH.cons (o := dxo11) rfl (fun K hK => ?_) AllReadyH.nil)
                    · obtain ⟨zA, hzA⟩ := TA244.out YA hYA
                      (try unfold dxo6)
                      go_simp
                      refine hK.out _ wv241 trivial (fun hHeld => ?_)
                      clear hK K
                      (try simp only [Act.put, List.setIfInBounds_toArray, List.set_cons_zero, List.set_cons_succ])
                      clear hzA
                      refine wpAnyH_ready (rs := [11]) (by kernel_rfl) (by simp) ?_
                      refine AllReadyH.cons (o := dxo11) rfl (fun K hK => ?_) AllReadyH.nil
                      obtain ⟨zB, hzB⟩ := TB245.out YB hYB
                      (try unfold dxo11)
                      go_simp
                      refine hK.out _ wv241 trivial (fun hHeld => ?_)
                      clear hK K
                      (try simp only [Act.put, List.setIfInBounds_toArray, List.set_cons_zero, List.set_cons_succ])
                      clear hzB
                      refine wpAnyH_take (i := 12) (oi := dxo12) (v := ?_) rfl (by kernel_rfl) (by kernel_rfl) (by kernel_rfl) (fun _ _ _ h => h) (Or.inl ⟨by rfl, ?hy110⟩) (by assumption) ?rest110
                      case hy110 => (intro w' hSw; (try dsimp only at hSw); (try unfold dxo12); go_simp; try with_reducible rfl)
                      (try simp only [Act.put, List.setIfInBounds_toArray, List.set_cons_zero, List.set_cons_succ])
                      refine wpAnyH_take (i := 13) (oi := dxo13) (v := ?_) rfl (by kernel_rfl) (by kernel_rfl) (by kernel_rfl) (fun _ _ _ h => h) (Or.inl ⟨by rfl, ?hy111⟩) (by assumption) ?rest111
                      case hy111 => (intro w' hSw; (try dsimp only at hSw); (try unfold dxo13); go_simp; try with_reducible rfl)
                      (try simp only [Act.put, List.setIfInBounds_toArray, List.set_cons_zero, List.set_cons_succ])
                      refine wpAnyH_ready (rs := [14]) (by kernel_rfl) (by simp) ?_
                      refine AllReadyH.cons (o := dxo14) rfl (fun K hK => ?_) AllReadyH.nil
                      obtain ⟨b', cp', hbe, hbw, hcl⟩ := HG242.out.form hm0
                      cases hbe
                      obtain ⟨⟨v0, hv0⟩, hf0⟩ := hcl (KI * 2) (by omega)
                      obtain ⟨⟨v1, hv1⟩, hf1⟩ := hcl (KI * 2 + 1) (by omega)
                      have GF := hide ((HG242.out.set hp HAB.out hbw (KI * 2) zA).set hp HAB.out hbw (KI * 2 + 1) zB)
                      clear hcl
                      (try unfold dxo14)
                      go_simp
                      refine hK.out _ ((wv241.setCell ⟨b, KI * 2, none⟩ (.int .i64 zA)).setCell ⟨b, KI * 2 + 1, none⟩ (.int .i64 zB)) trivial (fun hHeld => ?_)
                      clear hK K
                      (try simp only [Act.put, List.setIfInBounds_toArray, List.set_cons_zero, List.set_cons_succ])
                      refine wpAnyH_done (by kernel_rfl) ?_ _
                      go_wp2_with fail
                      go_meet
                      exact ⟨_, _, rfl, GF.out⟩
                    · obtain ⟨zB, hzB⟩ := TB245.out YB hYB
                      (try unfold dxo11)
                      go_simp
                      refine hK.out _ wv241 trivial (fun hHeld => ?_)
                      clear hK K
                      (try simp only [Act.put, List.setIfInBounds_toArray, List.set_cons_zero, List.set_cons_succ])
                      clear hzB
                      refine wpAnyH_ready (rs := [6]) (by kernel_rfl) (by simp) ?_
                      refine AllReadyH.cons (o := dxo6) rfl (fun K hK => ?_) AllReadyH.nil
                      obtain ⟨zA, hzA⟩ := TA244.out YA hYA
                      (try unfold dxo6)
                      go_simp
                      refine hK.out _ wv241 trivial (fun hHeld => ?_)
                      clear hK K
                      (try simp only [Act.put, List.setIfInBounds_toArray, List.set_cons_zero, List.set_cons_succ])
                      clear hzA
                      refine wpAnyH_take (i := 12) (oi := dxo12) (v := ?_) rfl (by kernel_rfl) (by kernel_rfl) (by kernel_rfl) (fun _ _ _ h => h) (Or.inl ⟨by rfl, ?hy112⟩) (by assumption) ?rest112
                      case hy112 => (intro w' hSw; (try dsimp only at hSw); (try unfold dxo12); go_simp; try with_reducible rfl)
                      (try simp only [Act.put, List.setIfInBounds_toArray, List.set_cons_zero, List.set_cons_succ])
                      refine wpAnyH_take (i := 13) (oi := dxo13) (v := ?_) rfl (by kernel_rfl) (by kernel_rfl) (by kernel_rfl) (fun _ _ _ h => h) (Or.inl ⟨by rfl, ?hy113⟩) (by assumption) ?rest113
                      case hy113 => (intro w' hSw; (try dsimp only at hSw); (try unfold dxo13); go_simp; try with_reducible rfl)
                      (try simp only [Act.put, List.setIfInBounds_toArray, List.set_cons_zero, List.set_cons_succ])
                      refine wpAnyH_ready (rs := [14]) (by kernel_rfl) (by simp) ?_
                      refine AllReadyH.cons (o := dxo14) rfl (fun K hK => ?_) AllReadyH.nil
                      obtain ⟨b', cp', hbe, hbw, hcl⟩ := HG242.out.form hm0
                      cases hbe
                      obtain ⟨⟨v0, hv0⟩, hf0⟩ := hcl (KI * 2) (by omega)
                      obtain ⟨⟨v1, hv1⟩, hf1⟩ := hcl (KI * 2 + 1) (by omega)
                      have GF := hide ((HG242.out.set hp HAB.out hbw (KI * 2) zA).set hp HAB.out hbw (KI * 2 + 1) zB)
                      clear hcl
                      (try unfold dxo14)
                      go_simp
                      refine hK.out _ ((wv241.setCell ⟨b, KI * 2, none⟩ (.int .i64 zA)).setCell ⟨b, KI * 2 + 1, none⟩ (.int .i64 zB)) trivial (fun hHeld => ?_)
                      clear hK K
                      (try simp only [Act.put, List.setIfInBounds_toArray, List.set_cons_zero, List.set_cons_succ])
                      refine wpAnyH_done (by kernel_rfl) ?_ _
                      go_wp2_with fail
                      go_meet
                      exact ⟨_, _, rfl, GF.out⟩
                · (try unfold dxo9)
                  go_simp
                  (with_reducible refine (c4 _ HG228.out.cur).mono ?_)
                  rintro e wv246 ⟨y, rfl, y0, y1, hc, hk248⟩
                  obtain ⟨YB, rfl⟩ : ∃ YB : Nat, y = YB := ⟨y.toNat, by omega⟩
                  have hYB : YB < 4 := by omega
                  have hYBi : (YB : Int) < 4 := by omega
                  have HG247 := hide (HG228.out.next hp hc hk248)
                  have TB249 : Hid (∀ Y, Y < 4 → ∃ z : Int, wv246.cell? ⟨X204, Y, none⟩ = some (.int .i64 z)) := fun Y h => (TB230.out Y h).imp fun z hz => hk248.cell (a := ⟨X204, Y, none⟩) hne206 hz
                  clear hc hk248 y0 y1
                  dsimp only
                  refine hK.out _ wv246 trivial (fun hHeld => ?_)
                  clear hK K
                  (try simp only [Act.put, List.setIfInBounds_toArray, List.set_cons_zero, List.set_cons_succ])
                  refine wpAnyH_take (i := 10) (oi := dxo10) (v := ?_) rfl (by kernel_rfl) (by kernel_rfl) (by kernel_rfl) (fun _ _ _ h => h) (Or.inl ⟨by rfl, ?hy114⟩) (by assumption) ?rest114
                  case hy114 => (intro w' hSw; (try dsimp only at hSw); (try unfold dxo10); go_simp; try with_reducible rfl)
                  (try simp only [Act.put, List.setIfInBounds_toArray, List.set_cons_zero, List.set_cons_succ])
                  refine wpAnyH_ready (rs := [2, 11]) (by kernel_rfl) (by simp) ?_
                  refine AllReadyH.cons (o := dxo2) rfl (fun K hK => ?_) (AllReadyH.cons (o := dxo11) rfl (fun K hK => ?_) AllReadyH.nil)
                  · (try unfold dxo2)
                    go_simp
                    have HG251 := hide (HG247.out.next hp (HG247.out.cur.below (bnew wv246 (.cells #[.int .i64 (-1), .int .i64 31, .int .i64 32] 2))) (Kept.of_below (bnew wv246 (.cells #[.int .i64 (-1), .int .i64 31, .int .i64 32] 2))))
                    have TA253 : Hid (∀ Y, Y < 3 → ∃ z : Int, (wv246.alloc (.cells #[.int .i64 (-1), .int .i64 31, .int .i64 32] 2)).cell? ⟨wv246.heap.size, Y, none⟩ = some (.int .i64 z)) := fun Y h => lit3 (w := wv246) Y h
                    have hne254 : wv246.heap.size ≠ p := by have := HG247.out.kept.size; omega
                    have TB255 : Hid (∀ Y, Y < 4 → ∃ z : Int, (wv246.alloc (.cells #[.int .i64 (-1), .int .i64 31, .int .i64 32] 2)).cell? ⟨X204, Y, none⟩ = some (.int .i64 z)) := fun Y h => (TB249.out Y h).imp fun z hz => cell_up (bnew wv246 (.cells #[.int .i64 (-1), .int .i64 31, .int .i64 32] 2)) hz
                    refine hK.out _ (wv246.alloc (.cells #[.int .i64 (-1), .int .i64 31, .int .i64 32] 2)) trivial (fun hHeld => ?_)
                    clear hK K
                    (try simp only [Act.put, List.setIfInBounds_toArray, List.set_cons_zero, List.set_cons_succ])
                    generalize hgwv250 : wv246.alloc (.cells #[.int .i64 (-1), .int .i64 31, .int .i64 32] 2) = wv250 at *
                    clear hgwv250
                    generalize hqwv250 : wv246.heap.size = X252 at *
                    clear hqwv250
                    refine wpAnyH_take (i := 5) (oi := dxo5) (v := ?_) rfl (by kernel_rfl) (by kernel_rfl) (by kernel_rfl) (fun _ _ _ h => h) (Or.inl ⟨by rfl, ?hy115⟩) (by assumption) ?rest115
                    case hy115 => (intro w' hSw; (try dsimp only at hSw); (try unfold dxo5); go_simp; try with_reducible rfl)
                    (try simp only [Act.put, List.setIfInBounds_toArray, List.set_cons_zero, List.set_cons_succ])
                    refine wpAnyH_ready (rs := [6, 11]) (by kernel_rfl) (by simp) ?_
                    refine AllReadyH.cons (o := dxo6) rfl (fun K hK => ?_) (AllReadyH.cons (o := dxo11) rfl (fun K hK => ?_) AllReadyH.nil)
                    · obtain ⟨zA, hzA⟩ := TA253.out YA hYA
                      (try unfold dxo6)
                      go_simp
                      refine hK.out _ wv250 trivial (fun hHeld => ?_)
                      clear hK K
                      (try simp only [Act.put, List.setIfInBounds_toArray, List.set_cons_zero, List.set_cons_succ])
                      clear hzA
                      refine wpAnyH_ready (rs := [11]) (by kernel_rfl) (by simp) ?_
                      refine AllReadyH.cons (o := dxo11) rfl (fun K hK => ?_) AllReadyH.nil
                      obtain ⟨zB, hzB⟩ := TB255.out YB hYB
                      (try unfold dxo11)
                      go_simp
                      refine hK.out _ wv250 trivial (fun hHeld => ?_)
                      clear hK K
                      (try simp only [Act.put, List.setIfInBounds_toArray, List.set_cons_zero, List.set_cons_succ])
                      clear hzB
                      refine wpAnyH_take (i := 12) (oi := dxo12) (v := ?_) rfl (by kernel_rfl) (by kernel_rfl) (by kernel_rfl) (fun _ _ _ h => h) (Or.inl ⟨by rfl, ?hy116⟩) (by assumption) ?rest116
                      case hy116 => (intro w' hSw; (try dsimp only at hSw); (try unfold dxo12); go_simp; try with_reducible rfl)
                      (try simp only [Act.put, List.setIfInBounds_toArray, List.set_cons_zero, List.set_cons_succ])
                      refine wpAnyH_take (i := 13) (oi := dxo13) (v := ?_) rfl (by kernel_rfl) (by kernel_rfl) (by kernel_rfl) (fun _ _ _ h => h) (Or.inl ⟨by rfl, ?hy117⟩) (by assumption) ?rest117
                      case hy117 => (intro w' hSw; (try dsimp only at hSw); (try unfold dxo13); go_simp; try with_reducible rfl)
                      (try simp only [Act.put, List.setIfInBounds_toArray, List.set_cons_zero, List.set_cons_succ])
                      refine wpAnyH_ready (rs := [14]) (by kernel_rfl) (by simp) ?_
                      refine AllReadyH.cons (o := dxo14) rfl (fun K hK => ?_) AllReadyH.nil
                      obtain ⟨b', cp', hbe, hbw, hcl⟩ := HG251.out.form hm0
                      cases hbe
                      obtain ⟨⟨v0, hv0⟩, hf0⟩ := hcl (KI * 2) (by omega)
                      obtain ⟨⟨v1, hv1⟩, hf1⟩ := hcl (KI * 2 + 1) (by omega)
                      have GF := hide ((HG251.out.set hp HAB.out hbw (KI * 2) zA).set hp HAB.out hbw (KI * 2 + 1) zB)
                      clear hcl
                      (try unfold dxo14)
                      go_simp
                      refine hK.out _ ((wv250.setCell ⟨b, KI * 2, none⟩ (.int .i64 zA)).setCell ⟨b, KI * 2 + 1, none⟩ (.int .i64 zB)) trivial (fun hHeld => ?_)
                      clear hK K
                      (try simp only [Act.put, List.setIfInBounds_toArray, List.set_cons_zero, List.set_cons_succ])
                      refine wpAnyH_done (by kernel_rfl) ?_ _
                      go_wp2_with fail
                      go_meet
                      exact ⟨_, _, rfl, GF.out⟩
                    · obtain ⟨zB, hzB⟩ := TB255.out YB hYB
                      (try unfold dxo11)
                      go_simp
                      refine hK.out _ wv250 trivial (fun hHeld => ?_)
                      clear hK K
                      (try simp only [Act.put, List.setIfInBounds_toArray, List.set_cons_zero, List.set_cons_succ])
                      clear hzB
                      refine wpAnyH_ready (rs := [6]) (by kernel_rfl) (by simp) ?_
                      refine AllReadyH.cons (o := dxo6) rfl (fun K hK => ?_) AllReadyH.nil
                      obtain ⟨zA, hzA⟩ := TA253.out YA hYA
                      (try unfold dxo6)
                      go_simp
                      refine hK.out _ wv250 trivial (fun hHeld => ?_)
                      clear hK K
                      (try simp only [Act.put, List.setIfInBounds_toArray, List.set_cons_zero, List.set_cons_succ])
                      clear hzA
                      refine wpAnyH_take (i := 12) (oi := dxo12) (v := ?_) rfl (by kernel_rfl) (by kernel_rfl) (by kernel_rfl) (fun _ _ _ h => h) (Or.inl ⟨by rfl, ?hy118⟩) (by assumption) ?rest118
                      case hy118 => (intro w' hSw; (try dsimp only at hSw); (try unfold dxo12); go_simp; try with_reducible rfl)
                      (try simp only [Act.put, List.setIfInBounds_toArray, List.set_cons_zero, List.set_cons_succ])
                      refine wpAnyH_take (i := 13) (oi := dxo13) (v := ?_) rfl (by kernel_rfl) (by kernel_rfl) (by kernel_rfl) (fun _ _ _ h => h) (Or.inl ⟨by rfl, ?hy119⟩) (by assumption) ?rest119
                      case hy119 => (intro w' hSw; (try dsimp only at hSw); (try unfold dxo13); go_simp; try with_reducible rfl)
                      (try simp only [Act.put, List.setIfInBounds_toArray, List.set_cons_zero, List.set_cons_succ])
                      refine wpAnyH_ready (rs := [14]) (by kernel_rfl) (by simp) ?_
                      refine AllReadyH.cons (o := dxo14) rfl (fun K hK => ?_) AllReadyH.nil
                      obtain ⟨b', cp', hbe, hbw, hcl⟩ := HG251.out.form hm0
                      cases hbe
                      obtain ⟨⟨v0, hv0⟩, hf0⟩ := hcl (KI * 2) (by omega)
                      obtain ⟨⟨v1, hv1⟩, hf1⟩ := hcl (KI * 2 + 1) (by omega)
                      have GF := hide ((HG251.out.set hp HAB.out hbw (KI * 2) zA).set hp HAB.out hbw (KI * 2 + 1) zB)
                      clear hcl
                      (try unfold dxo14)
                      go_simp
                      refine hK.out _ ((wv250.setCell ⟨b, KI * 2, none⟩ (.int .i64 zA)).setCell ⟨b, KI * 2 + 1, none⟩ (.int .i64 zB)) trivial (fun hHeld => ?_)
                      clear hK K
                      (try simp only [Act.put, List.setIfInBounds_toArray, List.set_cons_zero, List.set_cons_succ])
                      refine wpAnyH_done (by kernel_rfl) ?_ _
                      go_wp2_with fail
                      go_meet
                      exact ⟨_, _, rfl, GF.out⟩
                  · obtain ⟨zB, hzB⟩ := TB249.out YB hYB
                    (try unfold dxo11)
                    go_simp
                    refine hK.out _ wv246 trivial (fun hHeld => ?_)
                    clear hK K
                    (try simp only [Act.put, List.setIfInBounds_toArray, List.set_cons_zero, List.set_cons_succ])
                    clear hzB
                    refine wpAnyH_ready (rs := [2]) (by kernel_rfl) (by simp) ?_
                    refine AllReadyH.cons (o := dxo2) rfl (fun K hK => ?_) AllReadyH.nil
                    (try unfold dxo2)
                    go_simp
                    have HG257 := hide (HG247.out.next hp (HG247.out.cur.below (bnew wv246 (.cells #[.int .i64 (-1), .int .i64 31, .int .i64 32] 2))) (Kept.of_below (bnew wv246 (.cells #[.int .i64 (-1), .int .i64 31, .int .i64 32] 2))))
                    have TA259 : Hid (∀ Y, Y < 3 → ∃ z : Int, (wv246.alloc (.cells #[.int .i64 (-1), .int .i64 31, .int .i64 32] 2)).cell? ⟨wv246.heap.size, Y, none⟩ = some (.int .i64 z)) := fun Y h => lit3 (w := wv246) Y h
                    have hne260 : wv246.heap.size ≠ p := by have := HG247.out.kept.size; omega
                    refine hK.out _ (wv246.alloc (.cells #[.int .i64 (-1), .int .i64 31, .int .i64 32] 2)) trivial (fun hHeld => ?_)
                    clear hK K
                    (try simp only [Act.put, List.setIfInBounds_toArray, List.set_cons_zero, List.set_cons_succ])
                    generalize hgwv256 : wv246.alloc (.cells #[.int .i64 (-1), .int .i64 31, .int .i64 32] 2) = wv256 at *
                    clear hgwv256
                    generalize hqwv256 : wv246.heap.size = X258 at *
                    clear hqwv256
                    refine wpAnyH_take (i := 5) (oi := dxo5) (v := ?_) rfl (by kernel_rfl) (by kernel_rfl) (by kernel_rfl) (fun _ _ _ h => h) (Or.inl ⟨by rfl, ?hy120⟩) (by assumption) ?rest120
                    case hy120 => (intro w' hSw; (try dsimp only at hSw); (try unfold dxo5); go_simp; try with_reducible rfl)
                    (try simp only [Act.put, List.setIfInBounds_toArray, List.set_cons_zero, List.set_cons_succ])
                    refine wpAnyH_ready (rs := [6]) (by kernel_rfl) (by simp) ?_
                    refine AllReadyH.cons (o := dxo6) rfl (fun K hK => ?_) AllReadyH.nil
                    obtain ⟨zA, hzA⟩ := TA259.out YA hYA
                    (try unfold dxo6)
                    go_simp
                    refine hK.out _ wv256 trivial (fun hHeld => ?_)
                    clear hK K
                    (try simp only [Act.put, List.setIfInBounds_toArray, List.set_cons_zero, List.set_cons_succ])
                    clear hzA
                    refine wpAnyH_take (i := 12) (oi := dxo12) (v := ?_) rfl (by kernel_rfl) (by kernel_rfl) (by kernel_rfl) (fun _ _ _ h => h) (Or.inl ⟨by rfl, ?hy121⟩) (by assumption) ?rest121
                    case hy121 => (intro w' hSw; (try dsimp only at hSw); (try unfold dxo12); go_simp; try with_reducible rfl)
                    (try simp only [Act.put, List.setIfInBounds_toArray, List.set_cons_zero, List.set_cons_succ])
                    refine wpAnyH_take (i := 13) (oi := dxo13) (v := ?_) rfl (by kernel_rfl) (by kernel_rfl) (by kernel_rfl) (fun _ _ _ h => h) (Or.inl ⟨by rfl, ?hy122⟩) (by assumption) ?rest122
                    case hy122 => (intro w' hSw; (try dsimp only at hSw); (try unfold dxo13); go_simp; try with_reducible rfl)
                    (try simp only [Act.put, List.setIfInBounds_toArray, List.set_cons_zero, List.set_cons_succ])
                    refine wpAnyH_ready (rs := [14]) (by kernel_rfl) (by simp) ?_
                    refine AllReadyH.cons (o := dxo14) rfl (fun K hK => ?_) AllReadyH.nil
                    obtain ⟨b', cp', hbe, hbw, hcl⟩ := HG257.out.form hm0
                    cases hbe
                    obtain ⟨⟨v0, hv0⟩, hf0⟩ := hcl (KI * 2) (by omega)
                    obtain ⟨⟨v1, hv1⟩, hf1⟩ := hcl (KI * 2 + 1) (by omega)
                    have GF := hide ((HG257.out.set hp HAB.out hbw (KI * 2) zA).set hp HAB.out hbw (KI * 2 + 1) zB)
                    clear hcl
                    (try unfold dxo14)
                    go_simp
                    refine hK.out _ ((wv256.setCell ⟨b, KI * 2, none⟩ (.int .i64 zA)).setCell ⟨b, KI * 2 + 1, none⟩ (.int .i64 zB)) trivial (fun hHeld => ?_)
                    clear hK K
                    (try simp only [Act.put, List.setIfInBounds_toArray, List.set_cons_zero, List.set_cons_succ])
                    refine wpAnyH_done (by kernel_rfl) ?_ _
                    go_wp2_with fail
                    go_meet
                    exact ⟨_, _, rfl, GF.out⟩
        case rest =>
          obtain ⟨v3, L3, rfl, hP⟩ := hcut
          have HR : Hid (∃ v m L, Ending.returned v3 = .returned v ∧ m ≤ 13 ∧ EL p a len cap w v m L wc) := ⟨v3, m, L3, rfl, hm, hP⟩
          clear hP HQ HP
          go_wp2_with fail
          go_ret
          exact HR.out

end Go.Proofs.Ythfkdejlkegmoaa
