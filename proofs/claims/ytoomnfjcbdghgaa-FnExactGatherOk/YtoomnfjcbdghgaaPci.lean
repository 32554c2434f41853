/- The parts of a message: the program and the specification. -/
import Derived.Test.YtoomnfjcbdghgaaPcn
namespace Go.Proofs.Ytoomnfjcbdghgaa
open Go.RowKit

theorem pcB_out (id : Int) (len : Nat) (z : Int) (h : pcB id len z = true) : inB id 0 1000000 = true ∧ inB z 1 1024 = true ∧ len ≤ 2048 ∧ (len : Int) ≤ z * 64 := by
  simp only [pcB, Bool.and_eq_true, decide_eq_true_eq] at h
  exact ⟨h.1.1.1, h.1.1.2, h.1.2, h.2⟩
theorem inB_out {x lo hi : Int} (h : inB x lo hi = true) : lo ≤ x ∧ x ≤ hi := by
  unfold inB at h; simpa using h

set_option maxRecDepth 100000 in
set_option maxHeartbeats 2000000 in
theorem implPieces_any (id : Int) (s : ByteArray) (z : Int) (hs : s.size ≤ 1048576) (w : World) :
    Calls Try.prog 24 #[.int .i64 id, .string s, .int .i64 z] w (PtR (pcN id s z) (pcE id s z) w) := by
  have c1 := isId_any id w
  have c2 := within_any z 1 1024 w
  have HN : Hid (pcB id s.size z = false → PtR (pcN id s z) (pcE id s z) w (.returned (.slice none 0 0)) w) := fun h => by
    unfold pcN; rw [h, if_neg (by decide)]; exact PtR.nil _ _ (Below.refl _ _)
  cases h1 : inB id 0 1000000 with
  | false =>
    have HR := hide (HN.out (by unfold pcB; rw [h1]; rfl))
    rw [h1] at c1
    clear HN c2
    go_enter Try.func24, Try.ntmps24
    go_wp2_with fail
    refine c1.mono ?_
    rintro e w1 ⟨rfl, rfl⟩
    clear c1
    go_wp2_with fail
    go_ret
    exact HR.out
  | true =>
  rw [h1] at c1
  cases h2 : inB z 1 1024 with
  | false =>
    have HR := hide (HN.out (by unfold pcB; rw [h1, h2]; rfl))
    rw [h2] at c2
    clear HN
    go_enter Try.func24, Try.ntmps24
    go_wp2_with fail
    refine c1.mono ?_
    rintro e w1 ⟨rfl, rfl⟩
    clear c1
    go_wp2_with fail
    refine c2.mono ?_
    rintro e w1 ⟨rfl, rfl⟩
    clear c2
    go_wp2_with fail
    go_ret
    exact HR.out
  | true =>
  rw [h2] at c2
  by_cases h3 : (2048 : Int) < s.size
  · have HR := hide (HN.out (by unfold pcB; rw [h1, h2, decide_eq_false (by omega)]; rfl))
    clear HN
    go_enter Try.func24, Try.ntmps24
    go_wp2_with fail
    refine c1.mono ?_
    rintro e w1 ⟨rfl, rfl⟩
    clear c1
    go_wp2_with fail
    refine c2.mono ?_
    rintro e w1 ⟨rfl, rfl⟩
    clear c2
    go_wp2_with fail
    go_ret
    exact HR.out
  have hz := inB_out h2
  obtain ⟨Z, rfl⟩ : ∃ Z : Nat, z = Z := ⟨z.toNat, by omega⟩
  have hZ : 1 ≤ Z := by omega
  have hZ2 : Z ≤ 1024 := by omega
  generalize hlen : s.size = len at *
  have q1 : IntKind.i64.wrap ((len : Int) + Z) = (len : Int) + Z := by rw [IntKind.wrap_i64]; omega
  have q2 : IntKind.i64.wrap ((len : Int) + Z - 1) = (len : Int) + Z - 1 := by rw [IntKind.wrap_i64]; omega
  have q3 : ((len : Int) + Z - 1) / Z = (((len + Z - 1) / Z : Nat) : Int) := by
    rw [show (len : Int) + Z - 1 = ((len + Z - 1 : Nat) : Int) by omega]
    exact (Int.natCast_ediv _ _).symm
  have q3a : ((len : Int) + Z - 1).tdiv Z = (((len + Z - 1) / Z : Nat) : Int) := by
    rw [Int.tdiv_eq_ediv_of_nonneg (by omega), q3]
  have q3b : (len + Z - 1) / Z ≤ len + Z - 1 := Nat.div_le_self _ _
  have q3w : IntKind.i64.wrap (((len + Z - 1) / Z : Nat) : Int) = (((len + Z - 1) / Z : Nat) : Int) := by
    generalize (len + Z - 1) / Z = D at *
    rw [IntKind.wrap_i64]; omega
  have q4 : max (1 : Int) (((len + Z - 1) / Z : Nat) : Int) = (pcC len Z : Int) := by unfold pcC; omega
  have hq0 : ¬ (Z : Int) = 0 := by omega
  have hC1 := pcC_pos len Z
  have hC64 := pcC_le (len := len) (z := Z) hZ
  have HCL : Hid (∀ j, j + 1 < pcC len Z ↔ j * Z + Z < len) := fun j => pcC_lt hZ j
  have HEE : Hid (∀ k, pcE id s Z k = ⟨id, k, decide (k + 1 = pcC len Z), s.extract (k * Z) (min (k * Z + Z) len)⟩) := fun k => by
    show pcE id s Z k = _
    unfold pcE; rw [Int.toNat_natCast, hlen]
  have HPN : Hid (len ≤ Z * 64 → pcN id s Z = pcC len Z) := fun h => by
    show pcN id s Z = _
    unfold pcN pcB
    rw [h1, h2, hlen, decide_eq_true (by omega), decide_eq_true (by omega), Int.toNat_natCast]; rfl
  generalize (len + Z - 1) / Z = D at *
  generalize pcC len Z = C at *
  by_cases h4 : (64 : Int) < C
  · have HR := hide (HN.out (by unfold pcB; rw [h1, h2, decide_eq_false (show ¬ (len : Int) ≤ (Z : Int) * 64 by omega)]; simp))
    clear HN HCL HEE HPN
    go_enter Try.func24, Try.ntmps24
    go_wp2_with fail
    refine c1.mono ?_
    rintro e w1 ⟨rfl, rfl⟩
    clear c1
    go_wp2_with fail
    refine c2.mono ?_
    rintro e w1 ⟨rfl, rfl⟩
    clear c2
    go_wp2_with fail
    go_ret
    exact HR.out
  have hPN := HPN.out (by omega)
  obtain ⟨cur, hcur, hmk⟩ := make_capP C (by omega) w
  have HO0 : Hid ((w.alloc (.cells cur 36)).ownsRow w.heap.size 36 4 (.slice (some ⟨w.heap.size, 0, none⟩) 0 C) 0 []) := World.ownsRow_made w cur C (Nat.le_refl _) (by unfold maxLen; omega) hcur
  have HB0 : Hid (Below w.heap.size w (w.alloc (.cells cur 36))) := bnew _ _
  have HPN2 := hide hPN
  have HLE := hide hlen
  clear hcur HN HPN hPN
  generalize hEE : pcE id s Z = E at *
  clear hEE
  go_enter Try.func24, Try.ntmps24
  go_wp2_with fail
  refine c1.mono ?_
  rintro e w1 ⟨rfl, rfl⟩
  clear c1
  go_wp2_with fail
  refine c2.mono ?_
  rintro e w1 ⟨rfl, rfl⟩
  clear c2
  go_wp2_with fail
  go_loopw [9, 40] (fun v i wr => ∃ k : Nat, k ≤ C ∧ i = .int .i64 k ∧ wr.ownsRow w1.heap.size 36 4 v k (vls (FPart E) (k * 4)) ∧ Below w1.heap.size w1 wr) (fun _ i _ => C - (intOf i).toNat)
  case atStart => exact ⟨0, by omega, rfl, HO0.out, HB0.out⟩
  case round =>
    obtain ⟨k, hk, rfl, ho, hb⟩ := hrel
    have HW := hide ho
    have HB := hide hb
    clear HO0 HB0 hmk ho hb
    by_cases hlt : k < C
    · have hlt' : (k : Int) < C := by omega
      have hE := HEE.out k
      have hcl := HCL.out (k - 1)
      have hkz : k = 0 ∨ k * Z < len := by
        by_cases h0 : k = 0
        · exact .inl h0
        · right
          have e : k * Z = (k - 1) * Z + Z := by
            obtain ⟨j, rfl⟩ : ∃ j, k = j + 1 := ⟨k - 1, by omega⟩
            rw [Nat.add_mul]; simp
          rw [e]
          exact hcl.1 (by omega)
      have hkz2 : k * Z ≤ 2048 := by
        rcases hkz with rfl | h
        · simp
        · omega
      have hkz3 : k * Z ≤ len := by
        rcases hkz with rfl | h
        · simp
        · omega
      have e1 : (k : Int) * (Z : Int) = ((k * Z : Nat) : Int) := by push_cast; rfl
      generalize k * Z = Y at *
      have e2 : IntKind.i64.wrap ((Y : Nat) : Int) = (Y : Int) := by rw [IntKind.wrap_i64]; omega
      have e3 : IntKind.i64.wrap ((Y : Int) + Z) = (Y : Int) + Z := by rw [IntKind.wrap_i64]; omega
      have e4 : min ((Y : Int) + Z) (len : Int) = ((min (Y + Z) len : Nat) : Int) := by omega
      have hYm : Y ≤ min (Y + Z) len := by omega
      have hml : min (Y + Z) len ≤ len := by omega
      have hsl : ∀ w' : World, (Instr.slice 9 (.string s) (some (.int .i64 (Y : Int))) (some (.int .i64 ((min (Y + Z) len : Nat) : Int))) none).run Try.prog w' = .ok (.string (s.extract Y (min (Y + Z) len))) w' := fun w' => by
        have := run_slice_string (P := Try.prog) w' 9 s .i64 .i64 (Y : Int) ((min (Y + Z) len : Nat) : Int) Try.underlying9 (by omega) (by omega) (by rw [HLE.out]; omega)
        simpa using this
      generalize min (Y + Z) len = X at *
      generalize s.extract Y X = T at *
      have e5 : IntKind.i64.wrap ((C : Int) - 1) = (C : Int) - 1 := by rw [IntKind.wrap_i64]; omega
      have e6 : ((k : Int) == (C : Int) - 1) = decide (k + 1 = C) := by rw [Bool.eq_iff_iff]; simp; omega
      have HS : Hid (w1.heap.size ≤ wr.heap.size) := HB.out.size
      have HE := hide hE
      generalize decide (k + 1 = C) = F at *
      clear hE hcl hkz HEE HCL q1 q2 q3 q3a q3b q3w q4 HPN2
      go_wp2_with (refine growP _ rfl _ _ rfl w1.heap.size _ k E rfl w1 HW.out HB.out HS.out _ _ _ _ HE.out rfl (by omega) ?_)
      intro v' w' ho' hb' _
      have HW' := hide ho'
      have HB' := hide hb'
      clear ho' hb' HW HB HS HE hsl
      go_wp2_with fail
      go_roundw
      case rel => exact ⟨k + 1, by omega, by go_num, HW'.out, HB'.out⟩
      case measure => simp [intOf]; omega
    · obtain rfl : k = C := by omega
      have HR : Hid (PtR (pcN id s Z) E w1 (.returned u9) wr) := by rw [HPN2.out]; exact PtR.ofOwn HW.out HB.out
      clear HW HB HEE HCL HPN2
      go_wp2_with fail
      go_ret
      exact HR.out

end Go.Proofs.Ytoomnfjcbdghgaa
