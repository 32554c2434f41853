/- The parts of a message: the specification. -/
import Derived.Test.YtoomnfjcbdghgaaPci
namespace Go.Proofs.Ytoomnfjcbdghgaa
open Go.RowKit

theorem nil_ownP (w : World) (E : Nat → SPart) : (w.alloc (.cells #[] 36)).ownsRow w.heap.size 36 4 (.slice (some ⟨w.heap.size, 0, none⟩) 0 0) 0 (vls (FPart E) (0 * 4)) := World.ownsRow_lit w #[] 0 (Nat.le_refl _) (by unfold maxLen; omega) rfl

set_option maxRecDepth 100000 in
set_option maxHeartbeats 2000000 in
theorem specPieces_any (id : Int) (s : ByteArray) (z : Int) (hs : s.size ≤ 1048576) (w : World) :
    Calls Try.prog 23 #[.int .i64 id, .string s, .int .i64 z] w (PtR (pcN id s z) (pcE id s z) w) := by
  have c1 := l1In_any id 0 1000000 (w.alloc (.cells #[] 36))
  have c2 := l1In_any z 1 1024 (w.alloc (.cells #[] 36))
  have HN : Hid (pcB id s.size z = false → PtR (pcN id s z) (pcE id s z) w (.returned (.slice (some ⟨w.heap.size, 0, none⟩) 0 0)) (w.alloc (.cells #[] 36))) := fun h => by
    unfold pcN; rw [h, if_neg (by decide)]; exact PtR.nil _ _ (bnew _ _)
  cases h1 : inB id 0 1000000 with
  | false =>
    have HR := hide (HN.out (by unfold pcB; rw [h1]; rfl))
    rw [h1] at c1
    clear HN c2
    go_enter Try.func23, Try.ntmps23
    go_wp2_with fail
    refine c1.mono ?_
    rintro e w1 ⟨rfl, rfl⟩
    clear c1
    go_wp2_with fail
    go_ret
    exact HR.out
  | true =>
  rw [h1] at c1
  cases h2 : inB z 1 1024 with
  | false =>
    have HR := hide (HN.out (by unfold pcB; rw [h1, h2]; rfl))
    rw [h2] at c2
    clear HN
    go_enter Try.func23, Try.ntmps23
    go_wp2_with fail
    refine c1.mono ?_
    rintro e w1 ⟨rfl, rfl⟩
    clear c1
    go_wp2_with fail
    refine c2.mono ?_
    rintro e w1 ⟨rfl, rfl⟩
    clear c2
    go_wp2_with fail
    go_ret
    exact HR.out
  | true =>
  rw [h2] at c2
  have hz := inB_out h2
  obtain ⟨Z, rfl⟩ : ∃ Z : Nat, z = Z := ⟨z.toNat, by omega⟩
  have hZ : 1 ≤ Z := by omega
  have hZ2 : Z ≤ 1024 := by omega
  have hm : IntKind.i64.wrap ((Z : Int) * 64) = (Z : Int) * 64 := by rw [IntKind.wrap_i64]; omega
  by_cases h3 : (2048 : Int) < s.size
  · have HR := hide (HN.out (by unfold pcB; rw [h1, h2, decide_eq_false (by omega)]; rfl))
    clear HN
    go_enter Try.func23, Try.ntmps23
    go_wp2_with fail
    refine c1.mono ?_
    rintro e w1 ⟨rfl, rfl⟩
    clear c1
    go_wp2_with fail
    refine c2.mono ?_
    rintro e w1 ⟨rfl, rfl⟩
    clear c2
    go_wp2_with fail
    go_ret
    exact HR.out
  by_cases h4 : (Z : Int) * 64 < s.size
  · have HR := hide (HN.out (by unfold pcB; rw [h1, h2, decide_eq_false (show ¬ (s.size : Int) ≤ (Z : Int) * 64 by omega)]; simp))
    clear HN
    go_enter Try.func23, Try.ntmps23
    go_wp2_with fail
    refine c1.mono ?_
    rintro e w1 ⟨rfl, rfl⟩
    clear c1
    go_wp2_with fail
    refine c2.mono ?_
    rintro e w1 ⟨rfl, rfl⟩
    clear c2
    go_wp2_with fail
    go_ret
    exact HR.out
  have HCL : Hid (∀ j, j + 1 < pcC s.size Z ↔ j * Z + Z < s.size) := fun j => pcC_lt hZ j
  have hC1 := pcC_pos s.size Z
  have hC64 := (pcC_le (len := s.size) (z := Z) hZ).2 (by omega)
  have HEE : Hid (∀ k, pcE id s Z k = ⟨id, k, decide (k + 1 = pcC s.size Z), s.extract (k * Z) (min (k * Z + Z) s.size)⟩) := fun k => by
    show pcE id s Z k = _
    unfold pcE; rw [Int.toNat_natCast]
  have HPN : Hid (pcN id s Z = pcC s.size Z) := by
    show pcN id s Z = _
    unfold pcN pcB
    rw [h1, h2, decide_eq_true (by omega), decide_eq_true (by omega), Int.toNat_natCast]; rfl
  generalize hEE : pcE id s Z = E at *
  have HO0 : Hid ((w.alloc (.cells #[] 36)).ownsRow w.heap.size 36 4 (.slice (some ⟨w.heap.size, 0, none⟩) 0 0) 0 (vls (FPart E) (0 * 4))) := nil_ownP w E
  have HB0 : Hid (Below w.heap.size w (w.alloc (.cells #[] 36))) := bnew _ _
  have HX0 : Hid (s = s.extract (0 * Z) s.size) := by show _ = _; rw [Nat.zero_mul, ByteArray.extract_zero_size]
  generalize pcC s.size Z = C at *
  generalize hlen : s.size = len at *
  have HLE := hide hlen
  clear hEE HN
  go_enter Try.func23, Try.ntmps23
  go_wp2_with fail
  refine c1.mono ?_
  rintro e w1 ⟨rfl, rfl⟩
  clear c1
  go_wp2_with fail
  refine c2.mono ?_
  rintro e w1 ⟨rfl, rfl⟩
  clear c2
  go_wp2_with fail
  clear hlen
  go_loopw [1, 7] (fun u v wr => ∃ (k n : Nat) (t : ByteArray) (ad : Option Addr) (cp : Nat), k < C ∧ u = .string t ∧ v = .slice ad k cp ∧ Hid (t = s.extract (k * Z) len) ∧ t.size = n ∧ Hid (n + k * Z = len) ∧ wr.ownsRow w.heap.size 36 4 (.slice ad k cp) k (vls (FPart E) (k * 4)) ∧ Below w.heap.size w wr) (fun _ v _ => C - (match v with | .slice _ n _ => n | _ => 0))
  case atStart => exact ⟨0, len, s, _, _, by omega, rfl, rfl, HX0, HLE.out, hide (by simp), HO0.out, HB0.out⟩
  case round =>
    obtain ⟨k, n, t, ad, cp, hk, rfl, rfl, HT, hn, HKN, ho, hb⟩ := hrel
    have HW := hide ho
    have HB := hide hb
    have HS : Hid (w.heap.size ≤ wr.heap.size) := hb.size
    clear HO0 HB0 ho hb HX0
    have hcl := HCL.out k
    have hE := HEE.out k
    have hkn := HKN.out
    by_cases hlt : k + 1 < C
    · have h5 := hcl.1 hlt
      have hlt' : (Z : Int) < n := by omega
      have hF : decide (k + 1 = C) = false := decide_eq_false (by omega)
      have hsl : ∀ w' : World, (Instr.slice 9 (.string t) none (some (.int .i64 (Z : Int))) none).run Try.prog w' = .ok (.string (s.extract (k * Z) (min (k * Z + Z) len))) w' := fun w' => by
        have := run_slice_string_h (P := Try.prog) w' 9 t Try.underlying9 .i64 (Z : Int) (by omega) (by omega)
        rw [this, HT.out, Int.toNat_natCast, ← HLE.out, ext_ext s (k * Z) (k * Z) Z (by rw [HLE.out]; omega) rfl, HLE.out, show min (k * Z + Z) len = k * Z + Z by omega]
      have hsm : ∀ w' : World, (Instr.slice 9 (.string t) (some (.int .i64 (Z : Int))) none none).run Try.prog w' = .ok (.string (s.extract ((k + 1) * Z) len)) w' := fun w' => by
        have := run_slice_string_l (P := Try.prog) w' 9 t Try.underlying9 .i64 (Z : Int) (by omega) (by omega)
        rw [this, HT.out, Int.toNat_natCast, ← HLE.out, ext_tail, Nat.add_mul, Nat.one_mul]
      have hsz : (s.extract ((k + 1) * Z) len).size = n - Z := by rw [ByteArray.size_extract, HLE.out, Nat.add_mul]; omega
      have HKN2 : Hid (n - Z + (k + 1) * Z = len) := by show _ = _; rw [Nat.add_mul]; omega
      have HT2 : Hid (s.extract ((k + 1) * Z) len = s.extract ((k + 1) * Z) len) := rfl
      rw [hF] at hE
      have HE := hide hE
      generalize hT2 : s.extract ((k + 1) * Z) len = t2 at hsm hsz HT2
      generalize s.extract (k * Z) (min (k * Z + Z) len) = t1 at *
      have HT3 : Hid (t2 = s.extract ((k + 1) * Z) len) := hT2.symm
      clear hT2 HT2 HT hE hcl HKN hkn HEE HCL h5
      go_wp2_with (refine growP _ rfl _ _ rfl w.heap.size _ k E rfl w HW.out HB.out HS.out _ _ _ _ HE.out rfl (by omega) ?_)
      intro v' w' ho' hb' _
      obtain ⟨a2, c2, b2, rfl, -, -, -⟩ := ow_vls ho'
      have HW' := hide ho'
      have HB' := hide hb'
      clear ho' hb' HW HB HS HE hsl
      go_wp2_with fail
      go_roundw
      case rel => exact ⟨k + 1, n - Z, t2, a2, c2, hlt, rfl, rfl, HT3, hsz, HKN2, HW'.out, HB'.out⟩
      case measure => simp; omega
    · have hlt' : ¬ (Z : Int) < n := by omega
      have hCk : C = k + 1 := by omega
      have hF : decide (k + 1 = C) = true := decide_eq_true (by omega)
      rw [hF, show min (k * Z + Z) len = len by omega, ← HT.out] at hE
      have HE := hide hE
      have HF : Hid (∀ v' w', World.ownsRow w' w.heap.size 36 4 v' (k + 1) (vls (FPart E) ((k + 1) * 4)) → Below w.heap.size w w' → PtR (pcN id s Z) E w (.returned v') w') := fun v' w' h1 h2 => by
        rw [HPN.out, hCk]; exact PtR.ofOwn h1 h2
      clear HT hE hcl HKN hkn HEE HCL HPN
      go_wp2_with (refine growP _ rfl _ _ rfl w.heap.size _ k E rfl w HW.out HB.out HS.out _ _ _ _ HE.out rfl (by omega) ?_)
      intro v' w' ho' hb' _
      have HR := hide (HF.out v' w' ho' hb')
      clear ho' hb' HW HB HS HE HF
      go_wp2_with fail
      go_ret
      exact HR.out

end Go.Proofs.Ytoomnfjcbdghgaa
