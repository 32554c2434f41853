/- The program's codecs write. -/
import Derived.Test.YtebcclmilplfcaaCmn
import Derived.Test.YtebcclmilplfcaaPkj
namespace Go.Proofs.Ytebcclmilplfcaa
open Go.RowKit

set_option maxRecDepth 100000 in
set_option maxHeartbeats 1000000 in
theorem putSmall_any (p : Nat) (L : List Int) (x : Nat) (hx : x ≤ 4294967295) (hl : L.length + 8 * (smL x).length ≤ 8000000) (w : World) (h : BW p L w) :
    Calls Try.prog 31 #[.pointer (some ⟨p, 0, none⟩), .int .i64 x] w fun e w' => e = .returned (.tuple #[]) ∧ BW p (L ++ bb (smL x)) w' ∧ Below p w w' := by
  go_enter Try.func31, Try.ntmps31
  go_wp2
  go_loopw [1] (fun q wr => ∃ (z : Nat) (M : List Int), z ≤ 4294967295 ∧ q = .int .i64 z ∧ M ++ bb (smL z) = L ++ bb (smL x) ∧ BW p M wr ∧ Below p w wr) (fun q _ => (intOf q).toNat)
  case atStart => exact ⟨x, L, hx, rfl, rfl, h, Below.refl _ _⟩
  case round =>
    obtain ⟨z, M, hz, rfl, hM, hw, hb⟩ := hrel
    have hlen : M.length + 8 * (smL z).length = L.length + 8 * (smL x).length := by
      have := congrArg List.length hM
      simpa only [List.length_append, bb_len] using this
    have e8 : ((8 : Nat) : Int) = 8 := rfl
    have HB := hide hb
    by_cases hlt : 127 < z
    · have c := put_any p M (bits .or .i64 z 128) 8 (by omega) (by rw [smL_big hlt] at hlen; simp only [List.length_cons] at hlen; omega) wr hw
      rw [e8] at c
      have HZ : Hid ((M ++ bitK (bits .or .i64 z 128) 8) ++ bb (smL (z / 128)) = L ++ bb (smL x)) := by
        show _ = _
        rw [bitK_mod, or_128 _ (by omega) (by omega), ← hM, smL_big hlt]; simp only [bb, List.append_assoc]
      clear hM hw hb h hl hlen hx
      go_wp2_with fail
      refine c.mono ?_
      rintro e w' ⟨rfl, hw', hb'⟩
      have HW2 := hide hw'
      have HB2 := hide (HB.out.trans hb')
      clear hw' hb' c
      go_wp2_with fail
      go_roundw
      case rel => exact ⟨z / 128, _, by omega, by go_num, HZ.out, HW2.out, HB2.out⟩
      case measure => simp [intOf]; omega
    · have c := put_any p M z 8 (by omega) (by have := (smL_len z (by omega)).1; omega) wr hw
      rw [e8] at c
      have HZ : Hid (L ++ bb (smL x) = M ++ bitK z 8) := by
        show _ = _
        rw [← hM, smL_low (by omega), bb_one]
      clear hM hw hb h hl hlen hx
      go_wp2_with fail
      refine c.mono ?_
      rintro e w' ⟨rfl, hw', hb'⟩
      go_wp2_with fail
      go_end0
      exact ⟨rfl, by rw [HZ.out]; exact hw', HB.out.trans hb'⟩

theorem areTones_any (a : Option Addr) (n cap : Nat) (f : Nat → Int) (hl : n ≤ 1048576) (w : World) (h : Px a n f w) :
    Calls Try.prog 30 #[.slice a n cap] w fun e w' => e = .returned (.bool (tonB f n)) ∧ w' = w := by
  have c := allWithin_any 0 65535 a n cap f hl w h
  rw [alW_allG] at c
  unfold tonB
  by_cases hn : n ≤ 65536
  · rw [decide_eq_true hn]
    generalize allG (fun k => inB (f k) 0 65535) n = q at *
    go_enter Try.func30, Try.ntmps30
    go_wp2_with fail
    refine c.mono ?_
    rintro e w1 ⟨rfl, rfl⟩
    clear c
    go_wp2_with fail
    go_ret
    exact ⟨rfl, rfl⟩
  · rw [decide_eq_false hn]
    go_enter Try.func30, Try.ntmps30
    go_wp2_with fail
    go_ret
    exact ⟨rfl, rfl⟩

/-- the bits of rice, counted -/
theorem riceBits_any (a : Option Addr) (n cap : Nat) (f : Nat → Int) (hn : n ≤ 65536) (ht : tnB f n) (k : Nat) (hk : k ≤ 15) (w : World) (h : Px a n f w) :
    Calls Try.prog 53 #[.slice a n cap, .int .i64 k] w fun e w' => e = .returned (.int .i64 (rcN f k n)) ∧ w' = w := by
  have HP := hide h
  have HT := hide ht
  have HN := hide (rcN_bd ht k hk)
  clear h ht
  go_enter Try.func53, Try.ntmps53
  go_wp2
  go_loopw [5, 7, 10] (fun x _ i wr => ∃ j : Nat, j ≤ n ∧ i = .int .i64 j ∧ x = .int .i64 (rcN f k j) ∧ wr = w) (fun _ _ i _ => n - (intOf i).toNat)
  case atStart => exact ⟨0, by omega, rfl, rfl, rfl⟩
  case round =>
    obtain ⟨j, hj, rfl, rfl, rfl⟩ := hrel
    have hN := HN.out j hj
    by_cases hlt : j < n
    · obtain ⟨b, off, rfl, hz⟩ := HP.out.at hlt
      have hfk := HT.out j hlt
      have hd0 : 0 ≤ f j / 2 ^ k := Int.ediv_nonneg hfk.1 (Int.le_of_lt (pow_pos2 k))
      have hd1 : f j / 2 ^ k ≤ 65535 := Int.le_trans (Int.ediv_le_self _ hfk.1) hfk.2
      have HX : Hid (((rcN f k (j + 1) : Nat) : Int) = (rcN f k j : Int) + (f j / 2 ^ k + 1 + k)) := by show _ = _; simp only [rcN]; omega
      generalize rcN f k j = R at *
      generalize hD : f j / 2 ^ k = D at *
      clear HP HT HN
      have q1 : IntKind.i64.wrap (D + 1) = D + 1 := by rw [IntKind.wrap_i64]; omega
      have q2 : IntKind.i64.wrap (D + 1 + k) = D + 1 + k := by rw [IntKind.wrap_i64]; omega
      have q3 : IntKind.i64.wrap ((R : Int) + (D + 1 + k)) = (R : Int) + (D + 1 + k) := by rw [IntKind.wrap_i64]; omega
      go_wp2_with fail
      go_roundw
      case rel => exact ⟨j + 1, hlt, by go_num, by rw [HX.out], trivial⟩
      case measure => simp [intOf]; omega
    · obtain rfl : j = n := by omega
      go_wp2
      go_ret
      exact ⟨rfl, rfl⟩

end Go.Proofs.Ytebcclmilplfcaa
