/- Right faces and what they enclose: the program. -/
import Derived.Test.YtgkjndhobijdiaaFac
namespace Go.Proofs.Ytgkjndhobijdiaa
open Go.RowKit

def v3 (x y z : Int) (q : Nat) : Int := if q = 0 then x else if q = 1 then y else z
set_option maxRecDepth 100000 in
set_option maxHeartbeats 1000000 in
theorem cornerOf_any (x0 x1 x2 x3 x4 : Int) (w : World) :
    Calls Try.prog 141 #[vFace x0 x1 x2 x3 x4] w fun e w' => e = .returned (.agg #[.int .i64 x0, .int .i64 x1, .int .i64 x2]) ∧ Below w.heap.size w w' := by
  have HB := hide (bnext (bnew w (.cells #[.int .i64 x0, .int .i64 x1, .int .i64 x2, .int .i64 x3, .int .i64 x4] 149)) (Nat.le_refl _) (bnew _ (.cells #[.int .i64 x0, .int .i64 x1, .int .i64 x2] 146)))
  go_enter Try.func141, Try.ntmps141
  go_wp2
  exact bodyPost_ret (v := .agg #[.int .i64 x0, .int .i64 x1, .int .i64 x2]) (by simp [results, Try.results141, go_sem]) rfl ⟨rfl, HB.out⟩

set_option maxRecDepth 100000 in
set_option maxHeartbeats 4000000 in
theorem areFaces_any (a : Option Addr) (m cap : Nat) (g : Nat → Int) (hm : m ≤ 1048576) (w : World) (h : Px a (m * 5) g w) :
    Calls Try.prog 104 #[.slice a m cap] w fun e w' => e = .returned (.bool (facB m g)) ∧ Below w.heap.size w w' := by
  have HP := hide h
  clear h
  by_cases hbig : m ≤ 131072
  case neg =>
    have HF : Hid (facB m g = false) := by show facB m g = false; unfold facB; simp; omega
    clear HP
    go_enter Try.func104, Try.ntmps104
    go_wp2_with fail
    go_ret
    exact ⟨by rw [HF.out]; rfl, Below.refl _ _⟩
  have HE : Hid (facB m g = allG (facI g) m) := by show facB m g = _; unfold facB; simp [hbig]
  go_enter Try.func104, Try.ntmps104
  go_wp2_with fail
  go_loopw [11] (fun i wr => ∃ k : Nat, k ≤ m ∧ i = .int .i64 k ∧ Below w.heap.size w wr ∧ allG (facI g) k = true) (fun i _ => m - (intOf i).toNat)
  case atStart => exact ⟨0, by omega, rfl, Below.refl _ _, rfl⟩
  case round =>
    obtain ⟨k, hk, rfl, hb, ha⟩ := hrel
    by_cases hlt : k < m
    · obtain ⟨b, off, rfl, hbl, c0, c1, c2, c3, c4⟩ := (HP.out.below hb).atFace hlt
      have HB := hide hb
      have HS0 := hide ((St.start wr).box [.int .i64 (g (k * 5)), .int .i64 (g (k * 5 + 1)), .int .i64 (g (k * 5 + 2)), .int .i64 (g (k * 5 + 3)), .int .i64 (g (k * 5 + 4))] 149)
      have HY : Hid (facI g k = true → allG (facI g) (k + 1) = true) := fun h => allG_up ha h
      have HN : Hid (facI g k = false → facB m g = false) := fun h => by rw [HE.out]; exact allG_no k hlt h
      have HA : Hid (alW (v3 (g (k * 5)) (g (k * 5 + 1)) (g (k * 5 + 2))) 0 32 3 = (inB (g (k * 5)) 0 32 && inB (g (k * 5 + 1)) 0 32 && inB (g (k * 5 + 2)) 0 32)) := by show alW _ _ _ _ = _; simp [alW, v3]
      have dA := fun a' w' h => allWithin_any 0 32 a' 3 3 (v3 (g (k * 5)) (g (k * 5 + 1)) (g (k * 5 + 2))) (by omega) w' h
      have d3 := fun w' => within_any (g (k * 5 + 3)) 1 3 w'
      have dC := fun w' => cornerOf_any (g (k * 5)) (g (k * 5 + 1)) (g (k * 5 + 2)) (g (k * 5 + 3)) (g (k * 5 + 4)) w'
      unfold facI at HY HN
      rw [HA.out] at dA
      clear HP HE ha hb HA
      generalize (inB (g (k * 5)) 0 32 && inB (g (k * 5 + 1)) 0 32 && inB (g (k * 5 + 2)) 0 32) = B0 at *
      generalize inB (g (k * 5 + 3)) 1 3 = B3 at *
      generalize g (k * 5) = x0 at *
      generalize g (k * 5 + 1) = x1 at *
      generalize g (k * 5 + 2) = x2 at *
      generalize g (k * 5 + 3) = x3 at *
      generalize g (k * 5 + 4) = x4 at *
      go_wp2_with fail
      refine (dC _).mono ?_
      rintro e w1 ⟨rfl, hb⟩
      have HS1 := hide ((HS0.out.next hb).box [.int .i64 x0, .int .i64 x1, .int .i64 x2] 146)
      have HPx : Hid (Px (some ⟨w1.heap.size, 0, none⟩) 3 (v3 x0 x1 x2) (w1.alloc (.cells #[.int .i64 x0, .int .i64 x1, .int .i64 x2] 146))) := by
        refine .inr ⟨w1.heap.size, 0, rfl, fun q hq => ?_⟩
        rcases (show q = 0 ∨ q = 1 ∨ q = 2 by omega) with rfl | rfl | rfl
        · exact HS1.out.cell 0 rfl 0 rfl
        · exact HS1.out.cell 0 rfl 1 rfl
        · exact HS1.out.cell 0 rfl 2 rfl
      have q3 := HS1.out.cell 1 rfl 3 rfl
      have q4 := HS1.out.cell 1 rfl 4 rfl
      have HB' := hide (bnext HB.out (Nat.le_refl _) HS1.out.below)
      clear hb dC c0 c1 c2 c3 c4
      go_wp2_with fail
      refine (dA _ _ HPx.out).mono ?_
      rintro e w2 ⟨rfl, rfl⟩
      cases B0
      · go_wp2_with fail
        go_ret
        exact ⟨by rw [HN.out (by simp)]; rfl, HB'.out⟩
      cases B3
      · go_wp2_with fail
        refine (d3 _).mono ?_
        rintro e w3 ⟨rfl, rfl⟩
        go_wp2_with fail
        go_ret
        exact ⟨by rw [HN.out (by simp)]; rfl, HB'.out⟩
      by_cases t1 : x4 = 1
      · subst t1
        go_wp2_with fail
        refine (d3 _).mono ?_
        rintro e w3 ⟨rfl, rfl⟩
        go_wp2_with fail
        exact ⟨⟨k + 1, by omega, rfl, HB'.out, HY.out (by simp)⟩, by simp [intOf]; omega⟩
      by_cases t2 : x4 = -1
      · subst t2
        clear t1
        go_wp2_with fail
        refine (d3 _).mono ?_
        rintro e w3 ⟨rfl, rfl⟩
        go_wp2_with fail
        exact ⟨⟨k + 1, by omega, rfl, HB'.out, HY.out (by simp)⟩, by simp [intOf]; omega⟩
      have u1 : (x4 != 1) = true := by simp [t1]
      have u2 : (x4 != -1) = true := by simp [t2]
      go_wp2_with fail
      refine (d3 _).mono ?_
      rintro e w3 ⟨rfl, rfl⟩
      go_wp2_with fail
      go_ret
      exact ⟨by rw [HN.out (by simp [t1, t2])]; rfl, HB'.out⟩
    · obtain rfl : k = m := by omega
      go_wp2_with fail
      go_ret
      exact ⟨by rw [HE.out, ha]; rfl, hb⟩

set_option maxRecDepth 100000 in
set_option maxHeartbeats 2000000 in
theorem implEnclosed_any (a : Option Addr) (m cap : Nat) (g : Nat → Int) (hm : m ≤ 1048576) (w : World) (h : Px a (m * 5) g w) :
    Calls Try.prog 35 #[.slice a m cap] w fun e w' => e = .returned (.int .i64 (encV m g)) ∧ Below w.heap.size w w' := by
  have c := areFaces_any a m cap g hm w h
  have HP := hide h
  unfold encV
  clear h
  cases hq : facB m g
  · rw [hq] at c
    clear hq HP
    go_enter Try.func35, Try.ntmps35
    go_wp2_with fail
    refine c.mono ?_
    rintro e w1 ⟨rfl, hb⟩
    go_wp2_with fail
    go_ret
    exact ⟨rfl, hb⟩
  rw [hq] at c
  obtain ⟨hm2, hf⟩ := facB_parts hq
  have HF := hide hf
  rw [if_pos rfl]
  clear hq hf
  go_enter Try.func35, Try.ntmps35
  go_wp2_with fail
  refine c.mono ?_
  rintro e w1 ⟨rfl, hb1⟩
  have HB1 := hide hb1
  clear c hb1
  go_wp2_with fail
  go_loopw [3, 11] (fun s i wr => ∃ k : Nat, k ≤ m ∧ i = .int .i64 k ∧ s = .int .i64 (encS g k) ∧ Below w.heap.size w wr) (fun _ i _ => m - (intOf i).toNat)
  case atStart => exact ⟨0, by omega, rfl, rfl, HB1.out⟩
  case round =>
    obtain ⟨k, hk, rfl, rfl, hb⟩ := hrel
    clear HB1
    by_cases hlt : k < m
    · obtain ⟨b, off, rfl, hbl, c0, c1, c2, c3, c4⟩ := (HP.out.below hb).atFace hlt
      have HB := hide (bnext hb (Nat.le_refl _) (bnew _ (.cells #[.int .i64 (g (k * 5)), .int .i64 (g (k * 5 + 1)), .int .i64 (g (k * 5 + 2)), .int .i64 (g (k * 5 + 3)), .int .i64 (g (k * 5 + 4))] 149)))
      have bd := encS_bd HF.out k hk
      obtain ⟨⟨x0a, x0b⟩, _, _, _, hs⟩ := HF.out k hlt
      clear HP HF hb
      by_cases t : g (k * 5 + 3) = 1
      · have HS : Hid (encS g (k + 1) = encS g k + g (k * 5 + 4) * g (k * 5)) := by show encS g (k + 1) = _; rw [encS, if_pos t]
        rw [t] at c3 HB
        clear t
        generalize encS g k = E at *
        generalize g (k * 5) = x0 at *
        generalize g (k * 5 + 1) = x1 at *
        generalize g (k * 5 + 2) = x2 at *
        generalize g (k * 5 + 4) = x4 at *
        obtain ⟨P, hP⟩ : ∃ P, P = x4 * x0 := ⟨_, rfl⟩
        have hPb : -32 ≤ P ∧ P ≤ 32 := by rw [hP]; rcases hs with e | e <;> rw [e] <;> omega
        have wp : IntKind.i64.wrap (x4 * x0) = P := by rw [← hP, IntKind.wrap_i64]; omega
        obtain ⟨S, hS⟩ : ∃ S, S = E + P := ⟨_, rfl⟩
        have ws : IntKind.i64.wrap (E + P) = S := by rw [← hS, IntKind.wrap_i64]; omega
        rw [← hP, ← hS] at HS
        clear hP hS hs
        go_wp2_with fail
        exact ⟨⟨k + 1, by omega, rfl, by rw [HS.out], HB.out⟩, by simp [intOf]; omega⟩
      · have HS : Hid (encS g (k + 1) = encS g k) := by show encS g (k + 1) = _; rw [encS, if_neg t]
        generalize encS g k = E at *
        generalize g (k * 5) = x0 at *
        generalize g (k * 5 + 1) = x1 at *
        generalize g (k * 5 + 2) = x2 at *
        generalize g (k * 5 + 3) = x3 at *
        generalize g (k * 5 + 4) = x4 at *
        go_wp2_with fail
        exact ⟨⟨k + 1, by omega, rfl, by rw [HS.out], HB.out⟩, by simp [intOf]; omega⟩
    · obtain rfl : k = m := by omega
      go_wp2_with fail
      go_ret
      exact ⟨rfl, hb⟩

end Go.Proofs.Ytgkjndhobijdiaa
