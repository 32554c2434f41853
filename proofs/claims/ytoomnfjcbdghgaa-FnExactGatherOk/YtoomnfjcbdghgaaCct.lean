/- slices.Concat over two lists of numbers. -/
import Derived.Test.YtoomnfjcbdghgaaClo
import Derived.Lib.AppendZerosOnto
namespace Go.Proofs.Ytoomnfjcbdghgaa
open Go.RowKit

set_option maxHeartbeats 4000000 in
set_option maxRecDepth 100000 in
theorem growNil_any (n : Nat) (hn : n ≤ 4194304) (w : World) :
    Calls Try.prog 115 #[.slice none 0 0, .int .i64 n] w (OwR [] w) := by
  by_cases h0 : n = 0
  · subst h0
    have h1 : ¬ ((0 : Nat) : Int) < 0 := by omega
    go_enter Try.func115, Try.ntmps115
    go_wp2_with fail
    go_ret
    exact ⟨_, rfl, World.ownsRow_nil _ _ _ _, Below.refl _ _⟩
  · obtain ⟨i0, hi, hz0, hz1, hz2⟩ := info2
    have h1 : ¬ (n : Int) < 0 := by omega
    have h4 : (0 : Int) < n := by omega
    have hold : (Builtin.firstCells i0.size 0 (.slice none 0 0)).run Try.prog w.drew = .ok ([] : List Value).toArray w.drew := run_firstCells_none w.drew i0.size 0 0 0
    have hrz : ∀ ty, (Builtin.append_ #[25, 3] ty #[.slice none 0 0, .int .i64 n]).run Try.prog w =
        .ok (.slice (some ⟨w.heap.size, 0, none⟩) n (grownCap w n 0 2)) (w.drew.alloc (.cells (([] : List Value).toArray ++ Builtin.zeroCells (Value.cells (.int .i64 0)) n ++ Builtin.zeroCells (Value.cells (.int .i64 0)) (grownCap w n 0 2 - n)) 2)) := fun ty => by
      have h := Lib.run_append_grow_zeros w 25 3 ty 2 i0 (.int .i64 0) .i64 .i64 Try.underlying25 Try.underlying3 hi hz0 none 0 0 [] hold n (by omega) (by omega) (by omega) (by omega) (by rw [hz2]; omega) (by rw [Nat.zero_add]; exact growslice_fits (by omega) (by rw [hz2]; omega))
      rw [Nat.zero_add] at h
      exact h
    have hG1 : n ≤ grownCap w n 0 2 := grownCap_ge w _ _ _
    have hG2 : grownCap w n 0 2 ≤ maxLen := grownCap_le_maxLen w n 0 2 (by unfold maxLen; omega)
    generalize grownCap w n 0 2 = G at *
    obtain ⟨cur, hcur⟩ : ∃ cur, cur = (([] : List Value).toArray ++ Builtin.zeroCells (Value.cells (.int .i64 0)) n ++ Builtin.zeroCells (Value.cells (.int .i64 0)) (G - n)) := ⟨_, rfl⟩
    have hcs : cur.size = G * 1 := by
      have e1 : (Value.cells (.int .i64 0)).size = 1 := rfl
      rw [hcur]; simp [Builtin.zeroCells, e1]; omega
    rw [← hcur] at hrz
    have HO : Hid ((w.drew.alloc (.cells cur 2)).ownsRow w.heap.size 2 1 (.slice (some ⟨w.heap.size, 0, none⟩) 0 G) 0 []) := World.ownsRow_made w.drew cur G (Nat.le_refl _) hG2 hcs
    have HB : Hid (Below w.heap.size w (w.drew.alloc (.cells cur 2))) := ((Below.refl _ w).drew).alloc (Nat.le_refl _) _
    clear hcur hcs hold hi hz0 hz1 hz2
    unfold maxLen at hG2
    go_enter Try.func115, Try.ntmps115
    go_wp2_with (at_builtin; refine Lib.wpList_append_run _ rfl _ _ _ _ rfl _ _ rfl rfl _ _ (hrz _) ?_)
    all_goals (go_ret; exact ⟨_, rfl, HO.out, HB.out⟩)

theorem cell_kept' {w w' : World} {b j : Nat} {v : Value} (hb : Below w.heap.size w w') (h : w.cell? ⟨b, j, none⟩ = some v) : w'.cell? ⟨b, j, none⟩ = some v :=
  (hb.cell (p := ⟨b, j, none⟩) (World.block_lt_of_cell? w _ h)).trans h
/-- an append of a whole list that lies somewhere -/
theorem growAny (w : World) {ops : Array Oper} {rest : List Oper} {o : Oper} {a : Act} {Q : Exit → Act → World → Prop} (hgd : o.guard = none) (s x : Operand)
    (ho : o.op = .call { callee := .builtin .append, args := #[s, x], argTypes := #[25, 25] }) (B : Nat) (v : Value) (n : Nat) (L : List Int) (hs : a.eval s = v) (w0 : World) (hown : w.ownsRow B 2 1 v n (ints L)) (hb : Below B w0 w) (hB : B ≤ w.heap.size)
    (ad : Addr) (m c : Nat) (f : Nat → Int) (hx : a.eval x = .slice (some ad) m c) (hc : ∀ k, k < m → w.cell? (ad.add k) = some (.int .i64 (f k))) (hnm : n + m ≤ 4194304)
    (h : ∀ v' w', w'.ownsRow B 2 1 v' (n + m) (ints (L ++ fl f m)) → Below B w0 w' → wpList Try.prog ops Q rest (a.put o.dst v') w') :
    wpList Try.prog ops Q (o :: rest) a w := by
  obtain ⟨i0, hi, hz0, hz1, hz2⟩ := info2
  refine wpList_append_own _ hgd s x 25 ho B 2 i0 (.int .i64 0) 1 8 Try.underlying25 hi hz0 hz1 hz2 rfl (by decide) v n (ints L) hs hown ad m c (ints (fl f m)) hx (by simp [ints, fl_len]) (fun j u hj => by
    obtain ⟨hj', rfl⟩ := ints_fl f m j u hj
    exact hc j hj') (fun u hu => by simp [ints] at hu; obtain ⟨x, _, rfl⟩ := hu; rfl) (by unfold maxLen; omega) (by omega) hB ?_
  intro v' w' h1 h2 _
  have hr3 : ∀ q, Value.ownBlock v = some q → B ≤ q := fun q hq => (hown.lt q hq).1
  refine h v' w' ?_ (hb.trans ((Below.refl _ _).grown h2 hB hr3))
  rw [ints_append]; exact h1

set_option maxHeartbeats 4000000 in
set_option maxRecDepth 100000 in
theorem concat_any (p : Nat) (b1 o1 n1 c1 : Nat) (f1 : Nat → Int) (b2 o2 n2 c2 : Nat) (f2 : Nat → Int) (hn1 : n1 ≤ 1048576) (hn2 : n2 ≤ 1048576) (w : World) (z0 : w.cell? ⟨p, 0, none⟩ = some (.slice (some ⟨b1, o1, none⟩) n1 c1)) (z1 : w.cell? ⟨p, 1, none⟩ = some (.slice (some ⟨b2, o2, none⟩) n2 c2))
    (h1 : ∀ k, k < n1 → w.cell? ⟨b1, o1 + k, none⟩ = some (.int .i64 (f1 k))) (h2 : ∀ k, k < n2 → w.cell? ⟨b2, o2 + k, none⟩ = some (.int .i64 (f2 k))) :
    Calls Try.prog 78 #[.slice (some ⟨p, 0, none⟩) 2 2] w (OwR (fl f1 n1 ++ fl f2 n2) w) := by
  have HZ0 := hide z0
  have HZ1 := hide z1
  have H1 := hide h1
  have H2 := hide h2
  have cG := growNil_any (n1 + n2) (by omega) w
  clear h1 h2
  go_enter Try.func78, Try.ntmps78
  go_wp2_with fail
  go_loopw [3, 11] (fun s i wr => ∃ k : Nat, k ≤ 2 ∧ i = .int .i64 k ∧ s = .int .i64 ((if k = 0 then 0 else if k = 1 then n1 else n1 + n2 : Nat) : Int) ∧ wr = w) (fun _ i _ => 2 - (intOf i).toNat)
  case atStart => exact ⟨0, by omega, rfl, rfl, rfl⟩
  case round =>
    obtain ⟨k, hk, rfl, rfl, hw⟩ := hrel
    have hw' := hw.symm
    clear hw
    subst hw'
    obtain rfl | rfl | rfl : k = 0 ∨ k = 1 ∨ k = 2 := by omega
    · have e1 : IntKind.i64.wrap (n1 : Int) = (n1 : Int) := by rw [IntKind.wrap_i64]; omega
      have q1 : ¬ (n1 : Int) < 0 := by omega
      simp only [if_true]
      go_wp2_with fail
      go_roundw
      case rel => exact ⟨1, by omega, by go_num, by simp, trivial⟩
      case measure => simp [intOf]
    · have q1 : ¬ (n1 : Int) + (n2 : Int) < 0 := by omega
      simp only [Nat.one_ne_zero, if_false, if_true]
      go_wp2_with fail
      go_roundw
      case rel => exact ⟨2, by omega, by go_num, by simp, trivial⟩
      case measure => simp [intOf]
    · simp only [Nat.reduceEqDiff, if_false]
      clear z0 z1
      go_wp2_with fail
      refine cG.mono ?_
      rintro e w1 ⟨v1, rfl, ho1, hb1⟩
      have HO1 := hide ho1
      have HB1 := hide hb1
      clear cG ho1 hb1
      have W0 := cell_kept' HB1.out HZ0.out
      have W1 := cell_kept' HB1.out HZ1.out
      go_wp2_with fail
      clear W0 W1
      go_loopw [6, 27] (fun v i wq => ∃ (k n : Nat) (L : List Int), i = .int .i64 k ∧ (k = 0 ∧ n = 0 ∧ L = [] ∨ k = 1 ∧ n = n1 ∧ L = fl f1 n1 ∨ k = 2 ∧ n = n1 + n2 ∧ L = fl f1 n1 ++ fl f2 n2) ∧ wq.ownsRow w.heap.size 2 1 v n (ints L) ∧ Below w.heap.size w wq) (fun _ i _ => 2 - (intOf i).toNat)
      case atStart => exact ⟨0, 0, [], rfl, .inl ⟨rfl, rfl, rfl⟩, HO1.out, HB1.out⟩
      case round =>
        obtain ⟨k, n, L, rfl, hcase, ho, hb⟩ := hrel
        have HO := hide ho
        have HB := hide hb
        have HS : Hid (w.heap.size ≤ wr.heap.size) := hb.size
        have W0 := cell_kept' hb HZ0.out
        have W1 := cell_kept' hb HZ1.out
        clear ho hb HO1 HB1
        rcases hcase with ⟨rfl, rfl, rfl⟩ | ⟨rfl, rfl, rfl⟩ | ⟨rfl, rfl, rfl⟩
        · have HC : Hid (∀ k, k < n1 → wr.cell? ((⟨b1, o1, none⟩ : Addr).add k) = some (.int .i64 (f1 k))) := fun k hk => by
            rw [show (⟨b1, o1, none⟩ : Addr).add k = ⟨b1, o1 + k, none⟩ by have := add1 b1 o1 k; rwa [Nat.mul_one] at this]
            exact cell_kept' HB.out (H1.out k hk)
          go_wp2_with (refine growAny _ rfl _ _ rfl w.heap.size _ 0 [] rfl w HO.out HB.out HS.out ⟨b1, o1, none⟩ n1 c1 f1 rfl HC.out (by omega) ?_)
          intro v' w' ho' hb'
          have HO' := hide ho'
          have HB' := hide hb'
          clear ho' hb' HO HB HS HC W0 W1
          go_wp2_with fail
          go_roundw
          case rel => exact ⟨1, n1, fl f1 n1, by go_num, .inr (.inl ⟨rfl, rfl, rfl⟩), HO'.out, HB'.out⟩
          case measure => simp [intOf]
        · have HC : Hid (∀ k, k < n2 → wr.cell? ((⟨b2, o2, none⟩ : Addr).add k) = some (.int .i64 (f2 k))) := fun k hk => by
            rw [show (⟨b2, o2, none⟩ : Addr).add k = ⟨b2, o2 + k, none⟩ by have := add1 b2 o2 k; rwa [Nat.mul_one] at this]
            exact cell_kept' HB.out (H2.out k hk)
          go_wp2_with (refine growAny _ rfl _ _ rfl w.heap.size _ n (fl f1 n) rfl w HO.out HB.out HS.out ⟨b2, o2, none⟩ n2 c2 f2 rfl HC.out (by omega) ?_)
          intro v' w' ho' hb'
          have HO' := hide ho'
          have HB' := hide hb'
          clear ho' hb' HO HB HS HC W0 W1
          go_wp2_with fail
          go_roundw
          case rel => exact ⟨2, n + n2, fl f1 n ++ fl f2 n2, by go_num, .inr (.inr ⟨rfl, rfl, rfl⟩), HO'.out, HB'.out⟩
          case measure => simp [intOf]
        · have HR : Hid (OwR (fl f1 n1 ++ fl f2 n2) w (.returned u6) wr) := ⟨_, rfl, by rw [List.length_append, fl_len, fl_len]; exact HO.out, HB.out⟩
          clear HO HB HS W0 W1
          go_wp2_with fail
          go_ret
          exact HR.out

end Go.Proofs.Ytoomnfjcbdghgaa
