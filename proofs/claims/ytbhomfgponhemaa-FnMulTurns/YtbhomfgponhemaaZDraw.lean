/- The draws of numbers and floats: within their bounds, whatever the bytes. -/
import Derived.Test.YtbhomfgponhemaaZCur
namespace Go.Proofs.Ytbhomfgponhemaa.Z
open Ieee Go.RowKit Fl
attribute [local go_sem] run_store_float alloc_drewN setCell_drewN shape?_drewN run_fneg

theorem below_any (p : Nat) (a : Option Addr) (len cap : Nat) (w : World) (h : Cur p a len cap w) (n : Int) (h1 : 1 ≤ n) (h2 : n ≤ 256) :
    Calls Try.prog 27 #[.pointer (some ⟨p, 0, none⟩), .int .i64 n] w (Drawn p a len cap w 0 (n - 1)) := by
  have hb := byte_any p a len cap w h
  clear h
  go_enter Try.func27, Try.ntmps27
  go_wp2_with fail
  refine hb.mono ?_
  rintro e w' ⟨x, rfl, x0, x1, hc, hk⟩
  go_wp2_with fail
  go_ret
  exact ⟨_, rfl, Int.emod_nonneg _ (by omega), by have := Int.emod_lt_of_pos x (show 0 < n by omega); omega, hc, hk⟩

theorem from_any (p : Nat) (a : Option Addr) (len cap : Nat) (w : World) (h : Cur p a len cap w) (lo hi : Int) (h0 : -100 ≤ lo) (h1 : lo ≤ hi) (h2 : hi ≤ 100) :
    Calls Try.prog 21 #[.pointer (some ⟨p, 0, none⟩), .int .i64 lo, .int .i64 hi] w (Drawn p a len cap w lo hi) := by
  have hb := below_any p a len cap w h (hi - lo + 1) (by omega) (by omega)
  clear h
  go_enter Try.func21, Try.ntmps21
  go_wp2_with fail
  refine hb.mono ?_
  rintro e w' ⟨x, rfl, x0, x1, hc, hk⟩
  go_wp2_with fail
  go_ret
  exact ⟨_, rfl, by omega, by omega, hc, hk⟩

/-- what a draw of a truth value gives -/
def DrawnB (p : Nat) (a : Option Addr) (len cap : Nat) (w : World) (e : Ending) (w' : World) : Prop :=
  ∃ q : Bool, e = .returned (.bool q) ∧ Cur p a len cap w' ∧ Kept p w w'

theorem once_any (p : Nat) (a : Option Addr) (len cap : Nat) (w : World) (h : Cur p a len cap w) (n : Int) (h1 : 1 ≤ n) (h2 : n ≤ 256) :
    Calls Try.prog 22 #[.pointer (some ⟨p, 0, none⟩), .int .i64 n] w (DrawnB p a len cap w) := by
  have hb := below_any p a len cap w h n h1 h2
  clear h
  go_enter Try.func22, Try.ntmps22
  go_wp2_with fail
  refine hb.mono ?_
  rintro e w' ⟨x, rfl, x0, x1, hc, hk⟩
  go_wp2_with fail
  go_ret
  exact ⟨_, rfl, hc, hk⟩

/-- what a draw of 64 bits gives -/
def DrawnU (p : Nat) (a : Option Addr) (len cap : Nat) (w : World) (e : Ending) (w' : World) : Prop :=
  ∃ x : Nat, x < 2 ^ 64 ∧ e = .returned (.int .u64 (x : Int)) ∧ Cur p a len cap w' ∧ Kept p w w'

theorem u64_any (p : Nat) (a : Option Addr) (len cap : Nat) (w : World) (h : Cur p a len cap w) :
    Calls Try.prog 30 #[.pointer (some ⟨p, 0, none⟩)] w (DrawnU p a len cap w) := by
  go_enter Try.func30, Try.ntmps30
  go_wp2
  go_loopw [3, 4] (fun x i wr => ∃ (k n : Nat), k ≤ 8 ∧ n < 2 ^ 64 ∧ i = .int .i64 k ∧ x = .int .u64 n ∧ Cur p a len cap wr ∧ Kept p w wr) (fun _ i _ => 8 - (intOf i).toNat)
  case atStart => exact ⟨0, 0, by omega, by omega, rfl, rfl, h, Kept.refl _ _⟩
  case round =>
    obtain ⟨k, n, hk, hn, rfl, rfl, hc, hkp⟩ := hrel
    by_cases hlt : k < 8
    · have hb := byte_any p a len cap _ hc
      clear h
      go_wp2_with fail
      refine hb.mono ?_
      rintro e w' ⟨x, rfl, x0, x1, hc', hk'⟩
      have hkt := hkp.trans hk'
      clear hb hc hkp hk'
      go_wp2_with fail
      go_roundw
      case rel =>
        refine ⟨k + 1, ((n * 256 + x.toNat) % 2 ^ 64), by omega, Nat.mod_lt _ (by decide), by go_num, ?_, hc', hkt⟩
        congr 1
        rw [IntKind.wrap_u64, IntKind.wrap_u64]; omega
      case measure => simp [intOf]; omega
    · clear h
      go_wp2
      go_ret
      exact ⟨n, hn, rfl, hc, hkp⟩

theorem nanv_lt (w : World) (x y : Nat) : nanv w x y < 2 ^ 64 := by
  unfold nanv Question.cut
  simp only
  generalize w.tape w.drawn (.nanBits .f64 x y) = t
  have hq : t / 2 % (2 ^ 52 - 1) < 2 ^ 52 - 1 := Nat.mod_lt _ (by decide)
  have hs : t % 2 = 0 ∨ t % 2 = 1 := by omega
  generalize t / 2 % (2 ^ 52 - 1) = q at *
  rcases hs with hs | hs <;> rw [hs] <;> omega

theorem lt_of_wf {b : Nat} (h : (Lit.float .f64 b).wf = true) : b < 2 ^ 64 := by simpa [Lit.wf] using h

theorem fval_lt (op : BinOp) (x y : Nat) (w : World) : fval op x y w < 2 ^ 64 := by
  unfold fval
  cases h : floatBits op .f64 x y with
  | none => exact nanv_lt w x y
  | some r => exact lt_of_wf (floatBits_wf h)

theorem ofInt_lt (n : Int) : floatOfInt .f64 n < 2 ^ 64 := lt_of_wf (floatOfInt_wf .f64 n)

/-- what a draw of a float gives -/
def DrawnF (p : Nat) (a : Option Addr) (len cap : Nat) (w : World) (e : Ending) (w' : World) : Prop :=
  ∃ x : Nat, x < 2 ^ 64 ∧ e = .returned (.float .f64 x) ∧ Cur p a len cap w' ∧ Kept p w w'

set_option maxRecDepth 20000 in
theorem fromBits_lt (b : Nat) (hb : b < 2 ^ 64) (w : World) :
    Calls Try.prog 29 #[.int .u64 b] w fun e w' => ∃ x n, x < 2 ^ 64 ∧ e = .returned (.float .f64 x) ∧ w' = w.drewN n := by
  have hw := word_of b hb
  have hrl : rung b < 2 ^ 63 := Nat.mod_lt _ (by decide)
  have hrb : rung b = b % 2 ^ 63 := rfl
  obtain ⟨E, hE⟩ : ∃ E, E = rung b / 2 ^ 52 := ⟨_, rfl⟩
  obtain ⟨f, hf⟩ : ∃ f, f = rung b % 2 ^ 52 := ⟨_, rfl⟩
  have hr : rung b = E * 2 ^ 52 + f := by omega
  have hf2 : f < 2 ^ 52 := by omega
  have hE2 : E ≤ 2047 := by omega
  have e1 := exp_bits b E hb (by omega)
  have e2 : bits .and .u64 (b : Int) 4503599627370495 = (f : Int) := by
    have := low_u64 b 52 hb (by omega)
    rw [show b % 2 ^ 52 = f from by omega] at this
    exact this
  have e3 : ((b : Int) / 9223372036854775808 == 1) = neg b := by
    rw [neg_div b hb, Bool.eq_iff_iff]; simp; omega
  have hz := zero_any
  -- the first scaling, always made
  obtain ⟨x0, hx0, vx0⟩ := exists_rung f 1074 (by omega) (below_top f 1074 (by omega) (by omega))
  have c0 := floatOf f x0 hx0 vx0
  have hsc := scale_down f 0 1074 x0 (by omega) hx0 (by omega) (by rw [vx0, Nat.zero_add]) (by omega) (by rw [Nat.zero_add]; exact below_top f 1074 (by omega) (by omega))
  have hd0 : floatBits .quo .f64 4607182418800017408 0 = some inf := by
    have := div_zero 0 (by decide)
    rw [show neg 0 = false from by decide, word_false] at this
    exact this
  have q0 := fun w => run_float_arith (P := Try.prog) w .quo 24 .f64 _ _ _ hd0
  have ei : inf = 2047 * 2 ^ 52 := rfl
  rw [word_eq] at hw
  by_cases h1 : E = 2047
  · have e1' : bits .and .u64 ((b : Int) / 4503599627370496) 2047 = 2047 := by rw [e1, h1]; rfl
    by_cases h2 : f = 0
    · have e2' : bits .and .u64 (b : Int) 4503599627370495 = 0 := by rw [e2, h2]; rfl
      have hri : rung b = inf := by omega
      have key : Hid (inf < 2 ^ 64 ∧ fneg inf < 2 ^ 64) := by show inf < 2 ^ 64 ∧ fneg inf < 2 ^ 64; decide
      have c0' : floatOfInt .f64 0 = x0 := by rw [← c0, h2]; rfl
      clear hw hrl hrb hE hf hr hf2 hE2 e1 e2 hd0 ei h1 h2 hri vx0 hx0 c0 hb
      generalize inf = i at *
      cases hs : neg b
      all_goals
        rw [hs] at e3
        clear hs
        go_enter Try.func29, Try.ntmps29
        go_wp2_with fail
        refine (hz _).mono ?_
        rintro e w' ⟨rfl, rfl⟩
        go_wp2_with fail
        refine (hsc _).mono ?_
        rintro e w' ⟨⟨s, rfl, hs1, hs2⟩, rfl⟩
        clear hs1 hs2
        go_wp2_with fail
        go_ret
        first | exact ⟨_, 0, key.out.1, rfl, rfl⟩ | exact ⟨_, 0, key.out.2, rfl, rfl⟩
    · have e4 : ((f : Int) != 0) = true := by rw [bne_iff_ne]; omega
      have hn0 : floatBits .quo .f64 0 0 = none := by decide
      have q1 := fun w => run_nan (P := Try.prog) w .quo (.inr (.inr (.inr rfl))) 24 0 0 hn0
      clear hw hrl hrb hE hf hr hf2 hE2 e1 hd0 ei h1 h2 vx0 hx0 hb hn0
      generalize inf = i at *
      go_enter Try.func29, Try.ntmps29
      go_wp2_with fail
      refine (hz _).mono ?_
      rintro e w' ⟨rfl, rfl⟩
      go_wp2_with fail
      refine (hsc _).mono ?_
      rintro e w' ⟨⟨s, rfl, hs1, hs2⟩, rfl⟩
      clear hs1 hs2
      go_wp2_with fail
      go_ret
      exact ⟨_, 1, nanv_lt _ _ _, rfl, rfl⟩
  · have key : ∀ x, x < inf → x < 2 ^ 64 ∧ fneg x < 2 ^ 64 := by
      intro x hx
      have hl := inf_lt
      rw [fneg_pos x (by omega)]
      omega
    have KEY : Hid (∀ x, x < inf → x < 2 ^ 64 ∧ fneg x < 2 ^ 64) := key
    clear key
    have e5 : ((E : Int) == 2047) = false := by rw [beq_eq_false_iff_ne]; omega
    by_cases h0 : E = 0
    · have e1' : bits .and .u64 ((b : Int) / 4503599627370496) 2047 = 0 := by rw [e1, h0]; rfl
      clear hw hrl hrb hE hf hr hE2 e1 hd0 ei h1 h0 vx0 hx0 hb q0 e5
      cases hs : neg b
      all_goals
        rw [hs] at e3
        clear hs
        go_enter Try.func29, Try.ntmps29
        go_wp2_with fail
        refine (hz _).mono ?_
        rintro e w' ⟨rfl, rfl⟩
        go_wp2_with fail
        refine (hsc _).mono ?_
        rintro e w' ⟨⟨s, rfl, hs1, hs2⟩, rfl⟩
        have k3 : Hid (s < 2 ^ 64 ∧ fneg s < 2 ^ 64) := KEY.out s hs1
        clear hs1 hs2 KEY
        go_wp2_with fail
        go_ret
        first | exact ⟨_, 0, k3.out.1, rfl, rfl⟩ | exact ⟨_, 0, k3.out.2, rfl, rfl⟩
    · obtain ⟨x1, hx1, vx1⟩ := exists_rung (2 ^ 52 + f) 1074 (by omega) (below_top (2 ^ 52 + f) 1074 (by omega) (by omega))
      have c1 := floatOf (2 ^ 52 + f) x1 hx1 vx1
      have e6 : (((2 ^ 52 + f : Nat)) : Int) = (f : Int) + 4503599627370496 := by omega
      rw [e6] at c1
      have hd1 : floatBits .quo .f64 x1 4841369599423283200 = some (nw 0 f) := by
        show double.div _ _ = _
        rw [top_p2]
        refine div_pos _ _ _ hx1 (by omega) (nw_lt (by omega) hf2) ?_
        rw [vx1, V_nw _ _ hf2, Nat.add_zero]
        exact shift2 (2 ^ 52 + f) 1074 1074 1022 1126 rfl
      have q1 := fun w => run_float_arith (P := Try.prog) w .quo 24 .f64 _ _ _ hd1
      have hsc2 : ∀ w, Calls Try.prog 34 #[.float .f64 (nw 0 f), .int .i64 ((E : Int) - 1023)] w fun e w' => (∃ s, e = .returned (.float .f64 s) ∧ s < inf ∧ V s = (2 ^ 52 + f) * 2 ^ (E - 1)) ∧ w' = w := by
        intro w
        have v0 : V (nw 0 f) = (2 ^ 52 + f) * 2 ^ 1022 := by rw [V_nw _ _ hf2, Nat.add_zero]
        by_cases hc : 1023 ≤ E
        · have := scale_up (2 ^ 52 + f) 1022 (E - 1023) (nw 0 f) (nw_lt (by omega) hf2) (by omega) v0 (by omega) (below_top _ _ (by omega) (by omega)) w
          rw [show (((E - 1023 : Nat)) : Int) = (E : Int) - 1023 from by omega, show 1022 + (E - 1023) = E - 1 from by omega] at this
          exact this
        · have := scale_down (2 ^ 52 + f) (E - 1) (1023 - E) (nw 0 f) (by omega) (nw_lt (by omega) hf2) (by omega) (by rw [v0, show E - 1 + (1023 - E) = 1022 from by omega]) (by omega) (below_top _ _ (by omega) (by omega)) w
          rw [show (-((1023 - E : Nat) : Int)) = (E : Int) - 1023 from by omega] at this
          exact this
      have e7 : (0 : Int) < (E : Int) := by omega
      generalize nw 0 f = y at *
      clear hw hrl hrb hE hf hr e6 hd0 hd1 ei h1 h0 vx0 hx0 vx1 hx1 hb q0
      cases hs : neg b
      all_goals
        rw [hs] at e3
        clear hs
        go_enter Try.func29, Try.ntmps29
        go_wp2_with fail
        refine (hz _).mono ?_
        rintro e w' ⟨rfl, rfl⟩
        go_wp2_with fail
        refine (hsc _).mono ?_
        rintro e w' ⟨⟨s, rfl, hs1, hs2⟩, rfl⟩
        clear hs1 hs2
        go_wp2_with fail
        refine (hsc2 _).mono ?_
        rintro e w' ⟨⟨s, rfl, hs1, hs2⟩, rfl⟩
        have k3 : Hid (s < 2 ^ 64 ∧ fneg s < 2 ^ 64) := KEY.out s hs1
        clear hs1 hs2 KEY
        go_wp2_with fail
        go_ret
        first | exact ⟨_, 0, k3.out.1, rfl, rfl⟩ | exact ⟨_, 0, k3.out.2, rfl, rfl⟩


/-- the table of odd words -/
abbrev tab : Array Value := #[.int .u64 0, .int .u64 9223372036854775808, .int .u64 1, .int .u64 9223372036854775809, .int .u64 4503599627370495, .int .u64 4503599627370496, .int .u64 9218868437227405311, .int .u64 9218868437227405312, .int .u64 18442240474082181120, .int .u64 9221120237041090561, .int .u64 18444492273895866368, .int .u64 4607182418800017409, .int .u64 4039728865751334911, .int .u64 3931642474694443008, .int .u64 3936146074321813504, .int .u64 5183643170835005439, .int .u64 5183643170835005440, .int .u64 5183643171103440896, .int .u64 4607182419068452864, .int .u64 4607182419605323776]

theorem tab_at (k : Nat) (h : k < 20) : ∃ n : Nat, n < 2 ^ 64 ∧ tab[k]? = some (.int .u64 (n : Int)) := by
  have : k = 0 ∨ k = 1 ∨ k = 2 ∨ k = 3 ∨ k = 4 ∨ k = 5 ∨ k = 6 ∨ k = 7 ∨ k = 8 ∨ k = 9 ∨ k = 10 ∨ k = 11 ∨ k = 12 ∨ k = 13 ∨ k = 14 ∨ k = 15 ∨ k = 16 ∨ k = 17 ∨ k = 18 ∨ k = 19 := by omega
  rcases this with rfl | rfl | rfl | rfl | rfl | rfl | rfl | rfl | rfl | rfl | rfl | rfl | rfl | rfl | rfl | rfl | rfl | rfl | rfl | rfl
  · exact ⟨0, by decide, rfl⟩
  · exact ⟨9223372036854775808, by decide, rfl⟩
  · exact ⟨1, by decide, rfl⟩
  · exact ⟨9223372036854775809, by decide, rfl⟩
  · exact ⟨4503599627370495, by decide, rfl⟩
  · exact ⟨4503599627370496, by decide, rfl⟩
  · exact ⟨9218868437227405311, by decide, rfl⟩
  · exact ⟨9218868437227405312, by decide, rfl⟩
  · exact ⟨18442240474082181120, by decide, rfl⟩
  · exact ⟨9221120237041090561, by decide, rfl⟩
  · exact ⟨18444492273895866368, by decide, rfl⟩
  · exact ⟨4607182418800017409, by decide, rfl⟩
  · exact ⟨4039728865751334911, by decide, rfl⟩
  · exact ⟨3931642474694443008, by decide, rfl⟩
  · exact ⟨3936146074321813504, by decide, rfl⟩
  · exact ⟨5183643170835005439, by decide, rfl⟩
  · exact ⟨5183643170835005440, by decide, rfl⟩
  · exact ⟨5183643171103440896, by decide, rfl⟩
  · exact ⟨4607182419068452864, by decide, rfl⟩
  · exact ⟨4607182419605323776, by decide, rfl⟩

theorem tab_cell (w : World) (k : Nat) : (w.alloc (.cells tab 56)).cell? ⟨w.heap.size, k, none⟩ = tab[k]? :=
  World.cell?_alloc_new w tab 56 k

attribute [local go_sem] run_fadd run_fsub run_fmul run_fquo

set_option maxHeartbeats 1000000 in
theorem float_any (p : Nat) (a : Option Addr) (len cap : Nat) (w : World) (h : Cur p a len cap w) :
    Calls Try.prog 26 #[.pointer (some ⟨p, 0, none⟩)] w (DrawnF p a len cap w) := by
  have hb := from_any p a len cap w h (-20) 20 (by omega) (by omega) (by omega)
  clear h
  go_enter Try.func26, Try.ntmps26
  go_wp2_with fail
  refine hb.mono ?_
  rintro e w1 ⟨x, rfl, x0, x1, hc, hk⟩
  have hb2 := below_any p a len cap w1 hc 10 (by omega) (by omega)
  clear hb hc
  obtain ⟨f, hf⟩ : ∃ f, floatOfInt .f64 x = f := ⟨_, rfl⟩
  have hfl : Hid (f < 2 ^ 64) := by show f < 2 ^ 64; rw [← hf]; exact ofInt_lt x
  go_wp2_with fail
  refine hb2.mono ?_
  rintro e w2 ⟨y, rfl, y0, y1, hc2, hk2⟩
  have hkt := hk.trans hk2
  clear hb2 hk hk2 hf x0 x1
  have hy : y = 0 ∨ y = 1 ∨ y = 2 ∨ y = 3 ∨ y = 4 ∨ y = 5 ∨ (5 < y ∧ y ≤ 9) := by omega
  rcases hy with rfl | rfl | rfl | rfl | rfl | rfl | ⟨g1, g2⟩
  · go_wp2_with fail
    go_ret
    exact ⟨_, fval_lt _ _ _ _, rfl, hc2.drewN _, hkt.drewN _⟩
  · go_wp2_with fail
    go_ret
    exact ⟨_, fval_lt _ _ _ _, rfl, hc2.drewN _, hkt.drewN _⟩
  · go_wp2_with fail
    go_ret
    exact ⟨_, fval_lt _ _ _ _, rfl, hc2.drewN _, hkt.drewN _⟩
  · go_wp2_with fail
    go_ret
    exact ⟨_, fval_lt _ _ _ _, rfl, hc2.drewN _, hkt.drewN _⟩
  · have hu := u64_any p a len cap w2 hc2
    clear hc2
    go_wp2_with fail
    refine hu.mono ?_
    rintro e w3 ⟨n, hn, rfl, hc3, hk3⟩
    have hkt3 := hkt.trans hk3
    have hfb := fromBits_lt n hn
    clear hu hkt hk3 hn
    go_wp2_with fail
    refine (hfb _).mono ?_
    rintro e w4 ⟨z, m, hz, rfl, rfl⟩
    go_wp2_with fail
    go_ret
    exact ⟨_, hz, rfl, hc3.drewN _, hkt3.drewN _⟩
  · go_wp2_with fail
    have hpw : p < w2.heap.size := World.block_lt_of_cell? w2 _ hc2.head
    have hbl : ∀ o, Below w2.heap.size w2 (w2.alloc o) := fun o => (Below.refl _ _).alloc (Nat.le_refl _) o
    have hcT := hc2.below (hbl (.cells tab 56))
    have hb5 := below_any p a len cap _ hcT 20 (by omega) (by omega)
    refine hb5.mono ?_
    rintro e w3 ⟨y, rfl, y0', y1', hc3, hk3⟩
    obtain ⟨k, rfl⟩ : ∃ k : Nat, y = k := ⟨y.toNat, by omega⟩
    have hk20 : k < 20 := by omega
    obtain ⟨n, hn, hn2⟩ := tab_at k hk20
    have hcell : w3.cell? ⟨w2.heap.size, k, none⟩ = some (.int .u64 (n : Int)) := hk3.cell (by show w2.heap.size ≠ p; omega) (by rw [tab_cell w2 k, hn2])
    have hkt3 := hkt.trans ((Kept.of_below (hbl (.cells tab 56))).trans hk3)
    have hfb := fromBits_lt n hn
    clear hb5 hcT hbl hk3 hkt hn hn2 hc2 hpw y0' y1'
    go_wp2_with fail
    refine (hfb _).mono ?_
    rintro e w4 ⟨z, m, hz, rfl, rfl⟩
    go_wp2_with fail
    go_ret
    exact ⟨_, hz, rfl, hc3.drewN _, hkt3.drewN _⟩
  · have g3 : ((y == 0) = false) ∧ ((y == 1) = false) ∧ ((y == 2) = false) ∧ ((y == 3) = false) ∧ ((y == 4) = false) ∧ ((y == 5) = false) := by
      refine ⟨?_, ?_, ?_, ?_, ?_, ?_⟩ <;> (rw [beq_eq_false_iff_ne]; omega)
    obtain ⟨q0, q1, q2, q3, q4, q5⟩ := g3
    clear g1 g2
    go_wp2_with fail
    go_ret
    exact ⟨_, hfl.out, rfl, hc2, hkt⟩

end Go.Proofs.Ytbhomfgponhemaa.Z
