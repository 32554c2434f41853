/- The program's packed tones. -/
import Derived.Test.YtpjdoponjfnkjaaPki
import Derived.Test.YtpjdoponjfnkjaaPkt
namespace Go.Proofs.Ytpjdoponjfnkjaa
open Go.RowKit

theorem putAll_any (p : Nat) (L : List Int) (a : Option Addr) (n cap : Nat) (f : Nat → Int) (hl : n ≤ 1048576) (m : Nat) (hm : m ≤ 62) (hlm : L.length + n * m ≤ 8000000) (W : World) (hP : Px a n f W) (hWp : W.heap.size ≤ p) (w : World) (hWb : Below W.heap.size W w) (h : BW p L w) :
    Calls Try.prog 26 #[.pointer (some ⟨p, 0, none⟩), .slice a n cap, .int .i64 m] w fun e w' => e = .returned (.tuple #[]) ∧ BW p (L ++ tlB f m n) w' ∧ Below p w w' := by
  have HP := hide hP
  have HWp := hide hWp
  have HWb := hide hWb
  clear hP hWp hWb
  go_enter Try.func26, Try.ntmps26
  go_wp2
  go_loopw [7, 10] (fun _ j wr => ∃ k : Nat, k ≤ n ∧ j = .int .i64 k ∧ BW p (L ++ tlB f m k) wr ∧ Below p w wr) (fun _ j _ => n - (intOf j).toNat)
  case atStart => exact ⟨0, by omega, rfl, by simpa [tlB] using h, Below.refl _ _⟩
  case round =>
    obtain ⟨k, hk, rfl, hw, hb⟩ := hrel
    by_cases hlt : k < n
    · obtain ⟨b, off, rfl, hz⟩ := (HP.out.below (HWb.out.trans (hb.mono HWp.out))).at hlt
      have hkm : (k + 1) * m ≤ n * m := Nat.mul_le_mul_right _ hlt
      have c := put_any p (L ++ tlB f m k) (f k) m hm (by rw [List.length_append, tlB_len]; rw [Nat.add_mul] at hkm; omega) wr hw
      have HZ : Hid (L ++ tlB f m (k + 1) = L ++ tlB f m k ++ bitK (f k) m) := by show _ = _; rw [List.append_assoc]; rfl
      have HB := hide hb
      clear h hw hb hkm HP HWp HWb
      generalize L ++ tlB f m k = X at *
      go_wp2_with fail
      refine c.mono ?_
      rintro e w' ⟨rfl, hw', hb'⟩
      have HW2 := hide hw'
      have HB2 := hide (HB.out.trans hb')
      clear hw' hb' c
      go_wp2_with fail
      go_roundw
      case rel => exact ⟨k + 1, by omega, by go_num, by rw [HZ.out]; exact HW2.out, HB2.out⟩
      case measure => simp [intOf]; omega
    · obtain rfl : k = n := by omega
      go_wp2
      go_end0
      exact ⟨rfl, hw, hb⟩

/-- a new writer -/
theorem BW.new (w : World) : BW w.heap.size [] (w.alloc (.cells #[.slice none 0 0, .int .i64 0] 42)) :=
  ⟨.slice none 0 0, Bx.new [.slice none 0 0, .int .i64 0] _ w, World.ownsRow_nil _ _ _ _, by simp, isBits_nil⟩

theorem alW_allG (f : Nat → Int) (lo hi : Int) (n : Nat) : alW f lo hi n = allG (fun k => inB (f k) lo hi) n := by
  induction n with
  | zero => rfl
  | succ n ih => simp only [alW, allG]; rw [ih]

/-- the program's packing -/
theorem implPackTones_any (a : Option Addr) (n cap : Nat) (f : Nat → Int) (hl : n ≤ 1048576) (m : Int) (w : World) (h : Px a n f w) :
    Calls Try.prog 8 #[.slice a n cap, .int .i64 m] w (LsU (pkN f n m) (pkS f n m) w) := by
  have HP := hide h
  clear h
  by_cases hn : 65536 < n
  · have HN : Hid (pkB f n m = false) := by show _ = _; unfold pkB; rw [decide_eq_false (by omega)]; rfl
    clear HP
    go_enter Try.func8, Try.ntmps8
    go_wp2_with fail
    go_ret
    exact pk_no HN.out _ _ _ _ (Below.refl _ _)
  have cI := within_any m 1 16 w
  cases hM : inB m 1 16 with
  | false =>
    have HN : Hid (pkB f n m = false) := by show _ = _; unfold pkB; rw [hM]; simp
    rw [hM] at cI
    clear HP hM
    go_enter Try.func8, Try.ntmps8
    go_wp2_with fail
    refine cI.mono ?_
    rintro e w1 ⟨rfl, rfl⟩
    clear cI
    go_wp2_with fail
    go_ret
    exact pk_no HN.out _ _ _ _ (Below.refl _ _)
  | true =>
    rw [hM] at cI
    obtain ⟨M, rfl, hM1, hM2⟩ : ∃ M : Nat, m = M ∧ 1 ≤ M ∧ M ≤ 16 := by
      simp only [inB, Bool.and_eq_true, decide_eq_true_eq] at hM
      exact ⟨m.toNat, by omega, by omega, by omega⟩
    have hp : (2 : Int) ^ M ≤ 65536 := by
      have : (2 : Int) ^ M ≤ 2 ^ 16 := by exact_mod_cast Nat.pow_le_pow_right (by decide) hM2
      omega
    have hp0 := pow_pos2 M
    have cA := allWithin_any 0 (2 ^ M - 1) a n cap f hl w HP.out
    rw [alW_allG] at cA
    have HPD : Hid (pkB f n M = allG (fun k => inB (f k) 0 (2 ^ M - 1)) n) := by
      show _ = _
      unfold pkB
      rw [hM, decide_eq_true (by omega), Int.toNat_natCast]
      rfl
    rw [← HPD.out] at cA
    clear hM
    have hw1 : IntKind.i64.wrap (1 * 2 ^ M) = 2 ^ M := by rw [IntKind.wrap_i64]; omega
    cases hG : pkB f n M with
    | false =>
      have HG := hide hG
      rw [hG] at cA
      clear HP hG
      go_enter Try.func8, Try.ntmps8
      go_wp2_with fail
      refine cI.mono ?_
      rintro e w1 ⟨rfl, rfl⟩
      clear cI
      go_wp2_with fail
      refine cA.mono ?_
      rintro e w1 ⟨rfl, rfl⟩
      clear cA
      go_wp2_with fail
      go_ret
      exact pk_no HG.out _ _ _ _ (Below.refl _ _)
    | true =>
      rw [hG] at cA
      have hnm : n * M ≤ 65536 * 16 := Nat.mul_le_mul (by omega) hM2
      have HF : Hid (pkN f n M = nB (n * M) ∧ pkS f n M = byA (tlB f M n)) := by
        constructor
        · unfold pkN
          rw [hG, Int.toNat_natCast]
          rfl
        · unfold pkS
          rw [Int.toNat_natCast]
      have cW := fun w1 hb h1 => putAll_any w.heap.size [] a n cap f hl M (by omega) (by simp; omega) w HP.out (Nat.le_refl _) w1 hb h1
      have HNW := hide (BW.new w)
      have HBW : Hid (Below w.heap.size w (w.alloc (.cells #[.slice none 0 0, .int .i64 0] 42))) := bnew _ _
      clear hG HP
      go_enter Try.func8, Try.ntmps8
      go_wp2_with fail
      refine cI.mono ?_
      rintro e w1 ⟨rfl, rfl⟩
      clear cI
      go_wp2_with fail
      refine cA.mono ?_
      rintro e w1 ⟨rfl, rfl⟩
      clear cA
      go_wp2_with fail
      refine (cW _ HBW.out HNW.out).mono ?_
      rintro e w2 ⟨rfl, hw2, hb2⟩
      rw [List.nil_append] at hw2
      obtain ⟨v, hx, ho, hp, -⟩ := hw2
      rw [tlB_len] at ho
      obtain ⟨a3, cap3, b3, rfl, ho3, h3⟩ := own_u8 ho
      have i0 := (hx 0 _ rfl).1
      have HR : Hid (LsU (nB (n * M)) (byA (tlB f M n)) w1 (.returned (.slice a3 (nB (n * M)) cap3)) w2) := by
        refine ⟨a3, cap3, b3, rfl, ?_, h3.imp id (by omega), HBW.out.trans hb2⟩
        rcases ho3 with h0 | ⟨ha, hr⟩
        · exact .inl h0
        · exact .inr ⟨ha, hr.congr fun j hj => by show Value.int .u8 _ = _; rw [← fl_at (byA (tlB f M n)) _ j hj]⟩
      clear cW hx ho hp ho3 h3 hb2 HBW HNW
      generalize nB (n * M) = NB at *
      go_wp2_with fail
      go_ret
      rw [HF.out.1, HF.out.2]
      exact HR.out

end Go.Proofs.Ytpjdoponjfnkjaa
