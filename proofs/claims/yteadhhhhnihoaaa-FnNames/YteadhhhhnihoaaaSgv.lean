/- The specification's decoder of UTF-8, walked. -/
import Derived.Test.YteadhhhhnihoaaaSgu
namespace Go.Proofs.Yteadhhhhnihoaaa
open Go.RowKit

set_option maxRecDepth 100000 in
set_option maxHeartbeats 2000000 in
theorem utf2_any (s : ByteArray) (i : Nat) (hi : i < s.size) (hs : s.size ≤ 4096) (h0 : 192 ≤ (bl s).getD i 0) (h1 : (bl s).getD i 0 < 224) (w : World) :
    Calls Try.prog 38 #[.string s, .int .i64 i] w (UtfR ((bl s).drop i) w) := by
  have HDY := hide (dec_two (l := (bl s).drop i) (by rw [drop_head]; exact h0) (by rw [drop_head]; exact h1))
  have HD := hide (dec_two_no (l := (bl s).drop i) (by rw [drop_head]; exact h0) (by rw [drop_head]; exact h1))
  have x0 := fun w' => idx_str s i hi w'
  have hlen : ((bl s).drop i).length = s.size - i := by rw [List.length_drop, bl_len]
  rw [drop_head, Nat.add_zero, hlen] at HD HDY
  have HK : Hid (∀ j, (bl s).getD (i + j) 0 = ((bl s).drop i).getD j 0) := fun j => (drop_head _ _ _).symm
  have HX : Hid ((bl s).getD i 0 = ((bl s).drop i).getD 0 0) := HK.out 0
  obtain ⟨l, hl⟩ : ∃ l, l = (bl s).drop i := ⟨_, rfl⟩
  rw [← hl] at HD HDY HK HX hlen ⊢
  clear hl
  obtain ⟨X, hX⟩ : ∃ X : Nat, X = (bl s).getD i 0 := ⟨_, rfl⟩
  rw [← hX] at x0 h0 h1 HX HD HDY
  clear hX
  have wX : IntKind.i64.wrap (X : Int) = X := by rw [IntKind.wrap_i64]; omega
  have wV : IntKind.i64.wrap ((X : Int) - 192) = (X : Int) - 192 := by rw [IntKind.wrap_i64]; omega
  have c0 : (192 : Int) ≤ X := by omega
  have c1 : (X : Int) < 224 := by omega
  obtain ⟨v0, hv0⟩ : ∃ v0 : Int, v0 = (X : Int) - 192 := ⟨_, rfl⟩
  rw [← hv0] at HD HDY wV
  have b0 : 0 ≤ v0 := by omega
  have b1 : v0 < 32 := by omega
  clear HX
  by_cases hfit : i + 2 ≤ s.size
  · have f1 : ¬ (s.size : Int) < (i : Int) + 2 := by omega
    go_enter Try.func38, Try.ntmps38
    go_wp2_with fail
    go_loopw [8, 10, 11] (fun v k _ wr => ∃ j : Nat, j + 1 ≤ 2 ∧ k = .int .i64 ((j : Int) + 1) ∧ v = .int .i64 (vl v0 l j) ∧ (∀ q, 1 ≤ q → q ≤ j → ctn l q) ∧ wr = w) (fun _ k _ _ => 2 - (intOf k).toNat)
    case atStart => exact ⟨0, by omega, rfl, by rw [hv0]; rfl, fun q _ _ => by omega, rfl⟩
    case round =>
      obtain ⟨j, hj, rfl, rfl, hq, rfl⟩ := hrel
      have HQ := hide hq
      have hbd := vl_bd (l := l) b0 b1 j (by omega) hq
      clear hq x0
      by_cases hlt : j + 1 < 2
      · have x1 := fun w' => idx_strA s i (j + 1) (by omega) w'
        rw [HK.out (j + 1), show (((j + 1 : Nat) : Int)) = (j : Int) + 1 from rfl] at x1
        have hY : l.getD (j + 1) 0 < 256 := by rw [← HK.out]; exact bl_byte s _
        have hvl : vl v0 l (j + 1) = vl v0 l j * 64 + (l.getD (j + 1) 0 : Int) - 128 := rfl
        have hct : ctn l (j + 1) ↔ 128 ≤ l.getD (j + 1) 0 ∧ l.getD (j + 1) 0 ≤ 191 := Iff.rfl
        have HVL := hide hvl
        have HCT := hide hct
        have l1 : (j : Int) + 1 < 2 := by omega
        have wj : IntKind.i64.wrap ((i : Int) + ((j : Int) + 1)) = (i : Int) + ((j : Int) + 1) := by rw [IntKind.wrap_i64]; omega
        clear hvl hct
        generalize l.getD (j + 1) 0 = Y at *
        generalize vl v0 l j = Vj at *
        have wY : IntKind.i64.wrap (Y : Int) = Y := by rw [IntKind.wrap_i64]; omega
        have m1 : IntKind.i64.wrap (Vj * 64) = Vj * 64 := by rw [IntKind.wrap_i64]; omega
        have m2 : IntKind.i64.wrap (Vj * 64 + Y) = Vj * 64 + Y := by rw [IntKind.wrap_i64]; omega
        have m3 : IntKind.i64.wrap (Vj * 64 + Y - 128) = Vj * 64 + Y - 128 := by rw [IntKind.wrap_i64]; omega
        by_cases ha : Y < 128
        · have ha' : (Y : Int) < 128 := by omega
          have HE : Hid (dec l = (65533, 1)) := HD.out (fun x => by
            have hh : ctn l (j + 1) := by
              have e := x.1
              obtain rfl : j = 0 := by omega
              exact e.2
            have := HCT.out.1 hh
            omega)
          go_wp2_with fail
          go_ret2
          exact ⟨rfl, 0, 0, rfl, by omega, .inl ⟨rfl, HE.out⟩⟩
        · have ha' : ¬ (Y : Int) < 128 := by omega
          by_cases hb : 191 < Y
          · have hb' : (191 : Int) < Y := by omega
            have HE : Hid (dec l = (65533, 1)) := HD.out (fun x => by
              have hh : ctn l (j + 1) := by
                have e := x.1
                obtain rfl : j = 0 := by omega
                exact e.2
              have := HCT.out.1 hh
              omega)
            go_wp2_with fail
            go_ret2
            exact ⟨rfl, 0, 0, rfl, by omega, .inl ⟨rfl, HE.out⟩⟩
          · have hb' : ¬ (191 : Int) < Y := by omega
            have HQ2 : Hid (∀ q, 1 ≤ q → q ≤ j + 1 → ctn l q) := fun q q1 q2 => by
              by_cases e : q = j + 1
              · rw [e]; exact HCT.out.2 (by omega)
              · exact HQ.out q q1 (by omega)
            go_wp2_with fail
            go_roundw
            case rel => exact ⟨j + 1, by omega, by simp, by rw [HVL.out], HQ2.out, trivial⟩
            case measure => simp [intOf]; omega
      · obtain rfl : j = 1 := by omega
        have l1 : ¬ ((((1 : Nat) : Int)) + 1 < 2) := by omega
        have HC : Hid (1 < s.size - i ∧ ctn l 1) := ⟨by omega, HQ.out 1 (by omega) (by omega)⟩
        generalize vl v0 l 1 = V at *
        by_cases hf : fine 128 V
        · have HE : Hid (dec l = (V.toNat, 2)) := HDY.out HC.out hf
          have g1 : ¬ V < 128 := by have := hf.1; omega
          have g2 : ¬ (1114111 < V) := by have := hf.2.1; omega
          obtain ⟨Vn, rfl⟩ : ∃ Vn : Nat, V = Vn := ⟨V.toNat, by omega⟩
          rw [Int.toNat_natCast] at HE
          by_cases g3 : 55296 ≤ (Vn : Int)
          · have g4 : ¬ (Vn : Int) ≤ 57343 := by have := hf.2.2; omega
            clear hf
            go_wp2_with fail
            go_ret2
            exact ⟨rfl, Vn, 2, rfl, by omega, .inr ⟨by omega, HE.out⟩⟩
          · clear hf
            go_wp2_with fail
            go_ret2
            exact ⟨rfl, Vn, 2, rfl, by omega, .inr ⟨by omega, HE.out⟩⟩
        · have HE : Hid (dec l = (65533, 1)) := HD.out (fun x => hf x.2)
          have hf' : V < 128 ∨ 1114111 < V ∨ (55296 ≤ V ∧ V ≤ 57343) := by unfold fine at hf; omega
          clear hf
          by_cases g1 : V < 128
          · go_wp2_with fail
            go_ret2
            exact ⟨rfl, 0, 0, rfl, by omega, .inl ⟨rfl, HE.out⟩⟩
          · by_cases g2 : 1114111 < V
            · go_wp2_with fail
              go_ret2
              exact ⟨rfl, 0, 0, rfl, by omega, .inl ⟨rfl, HE.out⟩⟩
            · have g3 : 55296 ≤ V := by omega
              have g4 : V ≤ 57343 := by omega
              clear hf'
              go_wp2_with fail
              go_ret2
              exact ⟨rfl, 0, 0, rfl, by omega, .inl ⟨rfl, HE.out⟩⟩
  · have f1 : (s.size : Int) < (i : Int) + 2 := by omega
    have HE : Hid (dec l = (65533, 1)) := HD.out (fun x => by have := x.1.1; omega)
    go_enter Try.func38, Try.ntmps38
    go_wp2_with fail
    go_ret2
    exact ⟨rfl, 0, 0, rfl, by omega, .inl ⟨rfl, HE.out⟩⟩

set_option maxRecDepth 100000 in
set_option maxHeartbeats 2000000 in
theorem utf3_any (s : ByteArray) (i : Nat) (hi : i < s.size) (hs : s.size ≤ 4096) (h0 : 224 ≤ (bl s).getD i 0) (h1 : (bl s).getD i 0 < 240) (w : World) :
    Calls Try.prog 38 #[.string s, .int .i64 i] w (UtfR ((bl s).drop i) w) := by
  have HDY := hide (dec_three (l := (bl s).drop i) (by rw [drop_head]; exact h0) (by rw [drop_head]; exact h1))
  have HD := hide (dec_three_no (l := (bl s).drop i) (by rw [drop_head]; exact h0) (by rw [drop_head]; exact h1))
  have x0 := fun w' => idx_str s i hi w'
  have hlen : ((bl s).drop i).length = s.size - i := by rw [List.length_drop, bl_len]
  rw [drop_head, Nat.add_zero, hlen] at HD HDY
  have HK : Hid (∀ j, (bl s).getD (i + j) 0 = ((bl s).drop i).getD j 0) := fun j => (drop_head _ _ _).symm
  have HX : Hid ((bl s).getD i 0 = ((bl s).drop i).getD 0 0) := HK.out 0
  obtain ⟨l, hl⟩ : ∃ l, l = (bl s).drop i := ⟨_, rfl⟩
  rw [← hl] at HD HDY HK HX hlen ⊢
  clear hl
  obtain ⟨X, hX⟩ : ∃ X : Nat, X = (bl s).getD i 0 := ⟨_, rfl⟩
  rw [← hX] at x0 h0 h1 HX HD HDY
  clear hX
  have wX : IntKind.i64.wrap (X : Int) = X := by rw [IntKind.wrap_i64]; omega
  have wV : IntKind.i64.wrap ((X : Int) - 224) = (X : Int) - 224 := by rw [IntKind.wrap_i64]; omega
  have c0 : (224 : Int) ≤ X := by omega
  have c1 : (X : Int) < 240 := by omega
  obtain ⟨v0, hv0⟩ : ∃ v0 : Int, v0 = (X : Int) - 224 := ⟨_, rfl⟩
  rw [← hv0] at HD HDY wV
  have b0 : 0 ≤ v0 := by omega
  have b1 : v0 < 32 := by omega
  clear HX
  by_cases hfit : i + 3 ≤ s.size
  · have f1 : ¬ (s.size : Int) < (i : Int) + 3 := by omega
    go_enter Try.func38, Try.ntmps38
    go_wp2_with fail
    go_loopw [8, 10, 11] (fun v k _ wr => ∃ j : Nat, j + 1 ≤ 3 ∧ k = .int .i64 ((j : Int) + 1) ∧ v = .int .i64 (vl v0 l j) ∧ (∀ q, 1 ≤ q → q ≤ j → ctn l q) ∧ wr = w) (fun _ k _ _ => 3 - (intOf k).toNat)
    case atStart => exact ⟨0, by omega, rfl, by rw [hv0]; rfl, fun q _ _ => by omega, rfl⟩
    case round =>
      obtain ⟨j, hj, rfl, rfl, hq, rfl⟩ := hrel
      have HQ := hide hq
      have hbd := vl_bd (l := l) b0 b1 j (by omega) hq
      clear hq x0
      by_cases hlt : j + 1 < 3
      · have x1 := fun w' => idx_strA s i (j + 1) (by omega) w'
        rw [HK.out (j + 1), show (((j + 1 : Nat) : Int)) = (j : Int) + 1 from rfl] at x1
        have hY : l.getD (j + 1) 0 < 256 := by rw [← HK.out]; exact bl_byte s _
        have hvl : vl v0 l (j + 1) = vl v0 l j * 64 + (l.getD (j + 1) 0 : Int) - 128 := rfl
        have hct : ctn l (j + 1) ↔ 128 ≤ l.getD (j + 1) 0 ∧ l.getD (j + 1) 0 ≤ 191 := Iff.rfl
        have HVL := hide hvl
        have HCT := hide hct
        have l1 : (j : Int) + 1 < 3 := by omega
        have wj : IntKind.i64.wrap ((i : Int) + ((j : Int) + 1)) = (i : Int) + ((j : Int) + 1) := by rw [IntKind.wrap_i64]; omega
        clear hvl hct
        generalize l.getD (j + 1) 0 = Y at *
        generalize vl v0 l j = Vj at *
        have wY : IntKind.i64.wrap (Y : Int) = Y := by rw [IntKind.wrap_i64]; omega
        have m1 : IntKind.i64.wrap (Vj * 64) = Vj * 64 := by rw [IntKind.wrap_i64]; omega
        have m2 : IntKind.i64.wrap (Vj * 64 + Y) = Vj * 64 + Y := by rw [IntKind.wrap_i64]; omega
        have m3 : IntKind.i64.wrap (Vj * 64 + Y - 128) = Vj * 64 + Y - 128 := by rw [IntKind.wrap_i64]; omega
        by_cases ha : Y < 128
        · have ha' : (Y : Int) < 128 := by omega
          have HE : Hid (dec l = (65533, 1)) := HD.out (fun x => by
            have hh : ctn l (j + 1) := by
              have e := x.1
              obtain rfl | rfl : j = 0 ∨ j = 1 := by omega
              · exact e.2.1
              · exact e.2.2
            have := HCT.out.1 hh
            omega)
          go_wp2_with fail
          go_ret2
          exact ⟨rfl, 0, 0, rfl, by omega, .inl ⟨rfl, HE.out⟩⟩
        · have ha' : ¬ (Y : Int) < 128 := by omega
          by_cases hb : 191 < Y
          · have hb' : (191 : Int) < Y := by omega
            have HE : Hid (dec l = (65533, 1)) := HD.out (fun x => by
              have hh : ctn l (j + 1) := by
                have e := x.1
                obtain rfl | rfl : j = 0 ∨ j = 1 := by omega
                · exact e.2.1
                · exact e.2.2
              have := HCT.out.1 hh
              omega)
            go_wp2_with fail
            go_ret2
            exact ⟨rfl, 0, 0, rfl, by omega, .inl ⟨rfl, HE.out⟩⟩
          · have hb' : ¬ (191 : Int) < Y := by omega
            have HQ2 : Hid (∀ q, 1 ≤ q → q ≤ j + 1 → ctn l q) := fun q q1 q2 => by
              by_cases e : q = j + 1
              · rw [e]; exact HCT.out.2 (by omega)
              · exact HQ.out q q1 (by omega)
            go_wp2_with fail
            go_roundw
            case rel => exact ⟨j + 1, by omega, by simp, by rw [HVL.out], HQ2.out, trivial⟩
            case measure => simp [intOf]; omega
      · obtain rfl : j = 2 := by omega
        have l1 : ¬ ((((2 : Nat) : Int)) + 1 < 3) := by omega
        have HC : Hid (2 < s.size - i ∧ ctn l 1 ∧ ctn l 2) := ⟨by omega, HQ.out 1 (by omega) (by omega), HQ.out 2 (by omega) (by omega)⟩
        generalize vl v0 l 2 = V at *
        by_cases hf : fine 2048 V
        · have HE : Hid (dec l = (V.toNat, 3)) := HDY.out HC.out hf
          have g1 : ¬ V < 2048 := by have := hf.1; omega
          have g2 : ¬ (1114111 < V) := by have := hf.2.1; omega
          obtain ⟨Vn, rfl⟩ : ∃ Vn : Nat, V = Vn := ⟨V.toNat, by omega⟩
          rw [Int.toNat_natCast] at HE
          by_cases g3 : 55296 ≤ (Vn : Int)
          · have g4 : ¬ (Vn : Int) ≤ 57343 := by have := hf.2.2; omega
            clear hf
            go_wp2_with fail
            go_ret2
            exact ⟨rfl, Vn, 3, rfl, by omega, .inr ⟨by omega, HE.out⟩⟩
          · clear hf
            go_wp2_with fail
            go_ret2
            exact ⟨rfl, Vn, 3, rfl, by omega, .inr ⟨by omega, HE.out⟩⟩
        · have HE : Hid (dec l = (65533, 1)) := HD.out (fun x => hf x.2)
          have hf' : V < 2048 ∨ 1114111 < V ∨ (55296 ≤ V ∧ V ≤ 57343) := by unfold fine at hf; omega
          clear hf
          by_cases g1 : V < 2048
          · go_wp2_with fail
            go_ret2
            exact ⟨rfl, 0, 0, rfl, by omega, .inl ⟨rfl, HE.out⟩⟩
          · by_cases g2 : 1114111 < V
            · go_wp2_with fail
              go_ret2
              exact ⟨rfl, 0, 0, rfl, by omega, .inl ⟨rfl, HE.out⟩⟩
            · have g3 : 55296 ≤ V := by omega
              have g4 : V ≤ 57343 := by omega
              clear hf'
              go_wp2_with fail
              go_ret2
              exact ⟨rfl, 0, 0, rfl, by omega, .inl ⟨rfl, HE.out⟩⟩
  · have f1 : (s.size : Int) < (i : Int) + 3 := by omega
    have HE : Hid (dec l = (65533, 1)) := HD.out (fun x => by have := x.1.1; omega)
    go_enter Try.func38, Try.ntmps38
    go_wp2_with fail
    go_ret2
    exact ⟨rfl, 0, 0, rfl, by omega, .inl ⟨rfl, HE.out⟩⟩

set_option maxRecDepth 100000 in
set_option maxHeartbeats 2000000 in
theorem utf4_any (s : ByteArray) (i : Nat) (hi : i < s.size) (hs : s.size ≤ 4096) (h0 : 240 ≤ (bl s).getD i 0) (h1 : (bl s).getD i 0 < 248) (w : World) :
    Calls Try.prog 38 #[.string s, .int .i64 i] w (UtfR ((bl s).drop i) w) := by
  have HDY := hide (dec_four (l := (bl s).drop i) (by rw [drop_head]; exact h0) (by rw [drop_head]; exact h1))
  have HD := hide (dec_four_no (l := (bl s).drop i) (by rw [drop_head]; exact h0) (by rw [drop_head]; exact h1))
  have x0 := fun w' => idx_str s i hi w'
  have hlen : ((bl s).drop i).length = s.size - i := by rw [List.length_drop, bl_len]
  rw [drop_head, Nat.add_zero, hlen] at HD HDY
  have HK : Hid (∀ j, (bl s).getD (i + j) 0 = ((bl s).drop i).getD j 0) := fun j => (drop_head _ _ _).symm
  have HX : Hid ((bl s).getD i 0 = ((bl s).drop i).getD 0 0) := HK.out 0
  obtain ⟨l, hl⟩ : ∃ l, l = (bl s).drop i := ⟨_, rfl⟩
  rw [← hl] at HD HDY HK HX hlen ⊢
  clear hl
  obtain ⟨X, hX⟩ : ∃ X : Nat, X = (bl s).getD i 0 := ⟨_, rfl⟩
  rw [← hX] at x0 h0 h1 HX HD HDY
  clear hX
  have wX : IntKind.i64.wrap (X : Int) = X := by rw [IntKind.wrap_i64]; omega
  have wV : IntKind.i64.wrap ((X : Int) - 240) = (X : Int) - 240 := by rw [IntKind.wrap_i64]; omega
  have c0 : (240 : Int) ≤ X := by omega
  have c1 : (X : Int) < 248 := by omega
  obtain ⟨v0, hv0⟩ : ∃ v0 : Int, v0 = (X : Int) - 240 := ⟨_, rfl⟩
  rw [← hv0] at HD HDY wV
  have b0 : 0 ≤ v0 := by omega
  have b1 : v0 < 32 := by omega
  clear HX
  by_cases hfit : i + 4 ≤ s.size
  · have f1 : ¬ (s.size : Int) < (i : Int) + 4 := by omega
    go_enter Try.func38, Try.ntmps38
    go_wp2_with fail
    go_loopw [8, 10, 11] (fun v k _ wr => ∃ j : Nat, j + 1 ≤ 4 ∧ k = .int .i64 ((j : Int) + 1) ∧ v = .int .i64 (vl v0 l j) ∧ (∀ q, 1 ≤ q → q ≤ j → ctn l q) ∧ wr = w) (fun _ k _ _ => 4 - (intOf k).toNat)
    case atStart => exact ⟨0, by omega, rfl, by rw [hv0]; rfl, fun q _ _ => by omega, rfl⟩
    case round =>
      obtain ⟨j, hj, rfl, rfl, hq, rfl⟩ := hrel
      have HQ := hide hq
      have hbd := vl_bd (l := l) b0 b1 j (by omega) hq
      clear hq x0
      by_cases hlt : j + 1 < 4
      · have x1 := fun w' => idx_strA s i (j + 1) (by omega) w'
        rw [HK.out (j + 1), show (((j + 1 : Nat) : Int)) = (j : Int) + 1 from rfl] at x1
        have hY : l.getD (j + 1) 0 < 256 := by rw [← HK.out]; exact bl_byte s _
        have hvl : vl v0 l (j + 1) = vl v0 l j * 64 + (l.getD (j + 1) 0 : Int) - 128 := rfl
        have hct : ctn l (j + 1) ↔ 128 ≤ l.getD (j + 1) 0 ∧ l.getD (j + 1) 0 ≤ 191 := Iff.rfl
        have HVL := hide hvl
        have HCT := hide hct
        have l1 : (j : Int) + 1 < 4 := by omega
        have wj : IntKind.i64.wrap ((i : Int) + ((j : Int) + 1)) = (i : Int) + ((j : Int) + 1) := by rw [IntKind.wrap_i64]; omega
        clear hvl hct
        generalize l.getD (j + 1) 0 = Y at *
        generalize vl v0 l j = Vj at *
        have wY : IntKind.i64.wrap (Y : Int) = Y := by rw [IntKind.wrap_i64]; omega
        have m1 : IntKind.i64.wrap (Vj * 64) = Vj * 64 := by rw [IntKind.wrap_i64]; omega
        have m2 : IntKind.i64.wrap (Vj * 64 + Y) = Vj * 64 + Y := by rw [IntKind.wrap_i64]; omega
        have m3 : IntKind.i64.wrap (Vj * 64 + Y - 128) = Vj * 64 + Y - 128 := by rw [IntKind.wrap_i64]; omega
        by_cases ha : Y < 128
        · have ha' : (Y : Int) < 128 := by omega
          have HE : Hid (dec l = (65533, 1)) := HD.out (fun x => by
            have hh : ctn l (j + 1) := by
              have e := x.1
              obtain rfl | rfl | rfl : j = 0 ∨ j = 1 ∨ j = 2 := by omega
              · exact e.2.1
              · exact e.2.2.1
              · exact e.2.2.2
            have := HCT.out.1 hh
            omega)
          go_wp2_with fail
          go_ret2
          exact ⟨rfl, 0, 0, rfl, by omega, .inl ⟨rfl, HE.out⟩⟩
        · have ha' : ¬ (Y : Int) < 128 := by omega
          by_cases hb : 191 < Y
          · have hb' : (191 : Int) < Y := by omega
            have HE : Hid (dec l = (65533, 1)) := HD.out (fun x => by
              have hh : ctn l (j + 1) := by
                have e := x.1
                obtain rfl | rfl | rfl : j = 0 ∨ j = 1 ∨ j = 2 := by omega
                · exact e.2.1
                · exact e.2.2.1
                · exact e.2.2.2
              have := HCT.out.1 hh
              omega)
            go_wp2_with fail
            go_ret2
            exact ⟨rfl, 0, 0, rfl, by omega, .inl ⟨rfl, HE.out⟩⟩
          · have hb' : ¬ (191 : Int) < Y := by omega
            have HQ2 : Hid (∀ q, 1 ≤ q → q ≤ j + 1 → ctn l q) := fun q q1 q2 => by
              by_cases e : q = j + 1
              · rw [e]; exact HCT.out.2 (by omega)
              · exact HQ.out q q1 (by omega)
            go_wp2_with fail
            go_roundw
            case rel => exact ⟨j + 1, by omega, by simp, by rw [HVL.out], HQ2.out, trivial⟩
            case measure => simp [intOf]; omega
      · obtain rfl : j = 3 := by omega
        have l1 : ¬ ((((3 : Nat) : Int)) + 1 < 4) := by omega
        have HC : Hid (3 < s.size - i ∧ ctn l 1 ∧ ctn l 2 ∧ ctn l 3) := ⟨by omega, HQ.out 1 (by omega) (by omega), HQ.out 2 (by omega) (by omega), HQ.out 3 (by omega) (by omega)⟩
        generalize vl v0 l 3 = V at *
        by_cases hf : fine 65536 V
        · have HE : Hid (dec l = (V.toNat, 4)) := HDY.out HC.out hf
          have g1 : ¬ V < 65536 := by have := hf.1; omega
          have g2 : ¬ (1114111 < V) := by have := hf.2.1; omega
          obtain ⟨Vn, rfl⟩ : ∃ Vn : Nat, V = Vn := ⟨V.toNat, by omega⟩
          rw [Int.toNat_natCast] at HE
          by_cases g3 : 55296 ≤ (Vn : Int)
          · have g4 : ¬ (Vn : Int) ≤ 57343 := by have := hf.2.2; omega
            clear hf
            go_wp2_with fail
            go_ret2
            exact ⟨rfl, Vn, 4, rfl, by omega, .inr ⟨by omega, HE.out⟩⟩
          · clear hf
            go_wp2_with fail
            go_ret2
            exact ⟨rfl, Vn, 4, rfl, by omega, .inr ⟨by omega, HE.out⟩⟩
        · have HE : Hid (dec l = (65533, 1)) := HD.out (fun x => hf x.2)
          have hf' : V < 65536 ∨ 1114111 < V ∨ (55296 ≤ V ∧ V ≤ 57343) := by unfold fine at hf; omega
          clear hf
          by_cases g1 : V < 65536
          · go_wp2_with fail
            go_ret2
            exact ⟨rfl, 0, 0, rfl, by omega, .inl ⟨rfl, HE.out⟩⟩
          · by_cases g2 : 1114111 < V
            · go_wp2_with fail
              go_ret2
              exact ⟨rfl, 0, 0, rfl, by omega, .inl ⟨rfl, HE.out⟩⟩
            · have g3 : 55296 ≤ V := by omega
              have g4 : V ≤ 57343 := by omega
              clear hf'
              go_wp2_with fail
              go_ret2
              exact ⟨rfl, 0, 0, rfl, by omega, .inl ⟨rfl, HE.out⟩⟩
  · have f1 : (s.size : Int) < (i : Int) + 4 := by omega
    have HE : Hid (dec l = (65533, 1)) := HD.out (fun x => by have := x.1.1; omega)
    go_enter Try.func38, Try.ntmps38
    go_wp2_with fail
    go_ret2
    exact ⟨rfl, 0, 0, rfl, by omega, .inl ⟨rfl, HE.out⟩⟩

set_option maxRecDepth 100000 in
set_option maxHeartbeats 1000000 in
theorem l12Utf_any (s : ByteArray) (i : Nat) (hi : i < s.size) (hs : s.size ≤ 4096) (w : World) :
    Calls Try.prog 38 #[.string s, .int .i64 i] w (UtfR ((bl s).drop i) w) := by
  have hb := bl_byte s i
  by_cases a1 : (bl s).getD i 0 < 128
  · have HD := hide (dec_one (l := (bl s).drop i) (by rw [drop_head]; exact a1))
    have x0 := fun w' => idx_str s i hi w'
    rw [drop_head, Nat.add_zero] at HD
    generalize (bl s).getD i 0 = X at *
    have wX : IntKind.i64.wrap (X : Int) = X := by rw [IntKind.wrap_i64]; omega
    have q1 : ¬ (128 : Int) ≤ X := by omega
    have f1 : ¬ (s.size : Int) < (i : Int) + 1 := by omega
    have q2 : ¬ (X : Int) < 0 := by omega
    have q3 : ¬ (1114111 : Int) < X := by omega
    have q4 : ¬ (55296 : Int) ≤ X := by omega
    have r1 : ¬ (240 : Int) ≤ X := by omega
    have r2 : ¬ (224 : Int) ≤ X := by omega
    have r3 : ¬ (192 : Int) ≤ X := by omega
    have n1 : ¬ ((1 : Int) < 1) := by omega
    clear a1 hb
    obtain ⟨Z, hZ⟩ : ∃ Z : Int, Z = X := ⟨_, rfl⟩
    rw [← hZ] at x0 wX q1 q2 q3 q4 r1 r2 r3
    have HZ := hide hZ
    clear hZ
    go_enter Try.func38, Try.ntmps38
    go_wp2_with fail
    go_loopw [8, 10, 11] (fun v k _ wr => k = .int .i64 1 ∧ v = .int .i64 Z ∧ wr = w) (fun _ _ _ _ => 0)
    case atStart => exact ⟨rfl, rfl, rfl⟩
    case round =>
      obtain ⟨rfl, rfl, rfl⟩ := hrel
      go_wp2_with fail
      go_ret2
      have hd := HD.out
      exact ⟨rfl, X, 1, by rw [← HZ.out]; rfl, Nat.le_of_ble_eq_true rfl, .inr ⟨Nat.one_pos, hd⟩⟩
  · by_cases a2 : (bl s).getD i 0 < 192 ∨ 248 ≤ (bl s).getD i 0
    · have HD := hide (dec_none (l := (bl s).drop i) (by rw [drop_head, Nat.add_zero]; omega) (by rw [drop_head]; exact a2) (by rw [drop_head]; exact hb))
      have x0 := fun w' => idx_str s i hi w'
      generalize (bl s).getD i 0 = X at *
      have wX : IntKind.i64.wrap (X : Int) = X := by rw [IntKind.wrap_i64]; omega
      have q1 : (128 : Int) ≤ X := by omega
      by_cases a3 : 248 ≤ X
      · have r1 : (240 : Int) ≤ X := by omega
        have r4 : ¬ (X : Int) < 248 := by omega
        have r2 : (224 : Int) ≤ X := by omega
        have r5 : ¬ (X : Int) < 240 := by omega
        have r3 : (192 : Int) ≤ X := by omega
        have r6 : ¬ (X : Int) < 224 := by omega
        clear a2 a3
        go_enter Try.func38, Try.ntmps38
        go_wp2_with fail
        go_ret2
        exact ⟨rfl, 0, 0, rfl, by omega, .inl ⟨rfl, HD.out⟩⟩
      · have r1 : ¬ (240 : Int) ≤ X := by omega
        have r2 : ¬ (224 : Int) ≤ X := by omega
        have r3 : ¬ (192 : Int) ≤ X := by omega
        clear a2 a3
        go_enter Try.func38, Try.ntmps38
        go_wp2_with fail
        go_ret2
        exact ⟨rfl, 0, 0, rfl, by omega, .inl ⟨rfl, HD.out⟩⟩
    · by_cases b2 : (bl s).getD i 0 < 224
      · exact utf2_any s i hi hs (by omega) b2 w
      · by_cases b3 : (bl s).getD i 0 < 240
        · exact utf3_any s i hi hs (by omega) b3 w
        · exact utf4_any s i hi hs (by omega) (by omega) w

end Go.Proofs.Yteadhhhhnihoaaa
