/- FromLines: the program. -/
import Derived.Test.YtcghjecnbingfaaFri
namespace Go.Proofs.Ytcghjecnbingfaa
open Go.RowKit

/-- the side, and whether there is an image -/
def frP (m : Nat) : Nat := (sdv (m : Int)).toNat
def frB (m : Nat) (g : Nat → Int) : Bool := (l6sV m g != 0) && frT (frP m) m g
def frW (m : Nat) (g : Nat → Int) : Int := if frB m g = true then (frP m : Int) else 0
def frN (m : Nat) (g : Nat → Int) : Nat := if frB m g = true then frP m * frP m else 0

theorem sdv_pos {m : Nat} (h : sdv (m : Int) ≠ 0) : ∃ p : Nat, sdv (m : Int) = p ∧ priB (p : Int) = true ∧ m = (p + 1) * p ∧ frP m = p ∧ 2 ≤ p ∧ p ≤ 31 ∧ Lnm.isP p = true := by
  have h2 : ∃ p : Nat, sdv (m : Int) = p ∧ priB (p : Int) = true := by
    unfold sdv at h ⊢
    repeat' split at h
    all_goals (first | exact absurd rfl h | skip)
    all_goals simp only [*]
    · exact ⟨2, rfl, rfl⟩
    · exact ⟨3, rfl, rfl⟩
    · exact ⟨5, rfl, rfl⟩
    · exact ⟨7, rfl, rfl⟩
    · exact ⟨11, rfl, rfl⟩
    · exact ⟨13, rfl, rfl⟩
    · exact ⟨17, rfl, rfl⟩
    · exact ⟨19, rfl, rfl⟩
    · exact ⟨23, rfl, rfl⟩
    · exact ⟨29, rfl, rfl⟩
    · exact ⟨31, rfl, rfl⟩
  obtain ⟨p, h3, h4⟩ := h2
  obtain ⟨q, hq, q1, q2, q3⟩ := priB_nat h4
  have : q = p := by omega
  subst this
  exact ⟨q, h3, h4, sdv_inv h4 h3, by unfold frP; rw [h3]; rfl, q1, q2, q3⟩

theorem St.imRB {w0 : World} {L : List BoxT} {O : List OwnT} {w : World} {a : Option Addr} {b n : Nat} {s : Nat → Int} (h : St w0 L ((a, b, n, fun k => .int .i64 (s k)) :: O) w) (W H : Int) (cap : Nat) (c : Bool) : ImRB W H n s c w0 (.returned (.tuple #[im W H a n cap, .bool c])) w :=
  ⟨a, cap, b, rfl, h.nthO 0 rfl, by
    by_cases h0 : n = 0
    · exact .inl h0
    · exact .inr (h.lt b (mem_blocks_own (x := (a, b, n, fun k => .int .i64 (s k))) (List.mem_cons_self ..) h0)).1, h.below⟩
theorem St.imRN {w0 : World} {L : List BoxT} {O : List OwnT} {w : World} (h : St w0 L O w) (s : Nat → Int) : ImRB 0 0 0 s false w0 (.returned (.tuple #[im 0 0 none 0 0, .bool false])) w :=
  ⟨none, 0, 0, rfl, .inl rfl, .inl rfl, h.below⟩

set_option maxRecDepth 100000 in
set_option maxHeartbeats 4000000 in
theorem implFromLines_any (a : Option Addr) (m cap : Nat) (g : Nat → Int) (hl : m ≤ 1048576) (hcap : m ≤ cap) (w : World) (h : Px a m g w) :
    Calls Try.prog 10 #[.slice a m cap] w (ImRB (frW m g) (frW m g) (frN m g) (frX (frP m) g) (frB m g) w) := by
  have HSt := hide ((St.start w).box [.int .i64 0, .int .i64 0, .slice none 0 0] 26)
  have HP := hide h
  have cS := implSideOf_any (m : Int)
  generalize hA : w.alloc (.cells [.int .i64 0, .int .i64 0, .slice none 0 0].toArray 26) = wA at HSt
  have hA' : w.alloc (.cells #[.int .i64 0, .int .i64 0, .slice none 0 0] 26) = wA := hA
  clear hA h
  obtain ⟨z0, z1, z2⟩ := HSt.out.im3 0 rfl
  obtain ⟨e0, e1, e2⟩ := HSt.out.fr3 0 rfl
  by_cases h0 : sdv (m : Int) = 0
  · have hB : frB m g = false := by unfold frB l6sV; rw [h0]; simp
    unfold frW frN
    rw [hB]
    simp only [Bool.false_eq_true, if_false]
    have HE := hide ((HSt.out.fill3 (.int .i64 0) (.int .i64 0) (.slice none 0 0)).imRN (frX (frP m) g))
    rw [h0] at cS
    generalize frX (frP m) g = s at *
    clear hB h0 HSt
    go_enter Try.func10, Try.ntmps10
    go_wp2_with fail
    refine (cS _).mono ?_
    rintro e w1 ⟨rfl, rfl⟩
    clear cS
    go_wp2_with fail
    exact bodyPost_ret (v := .tuple #[im 0 0 none 0 0, .bool false]) (by simp [results, Try.results10, go_sem, z0, z1, z2]) rfl HE.out
  · obtain ⟨p, hp1, hp2, hm, hpP, p2, p31, hisP⟩ := sdv_pos h0
    have hp0 : ((p : Int) == 0) = false := by simp; omega
    have cL := fun w' h => areLineSums_any p (by omega) a m cap g hl w' h
    have hls : lsB p m g = alW g (-200000) 200000 m := by unfold lsB; rw [decide_eq_true hm]; rfl
    rw [hp1] at cS
    rw [hls] at cL
    rw [hpP]
    cases hal : alW g (-200000) 200000 m
    · have hB : frB m g = false := by unfold frB l6sV; rw [hal]; simp
      unfold frW frN
      rw [hB]
      simp only [Bool.false_eq_true, if_false]
      have HE := hide ((HSt.out.fill3 (.int .i64 0) (.int .i64 0) (.slice none 0 0)).imRN (frX p g))
      have pA := HP.out.below HSt.out.below
      rw [hal] at cL
      generalize frX p g = s at *
      clear hB h0 HSt hal hls hm hpP hp1 hp2 HP
      go_enter Try.func10, Try.ntmps10
      go_wp2_with fail
      refine (cS _).mono ?_
      rintro e w1 ⟨rfl, rfl⟩
      clear cS
      go_wp2_with fail
      refine (cL _ pA).mono ?_
      rintro e w2 ⟨rfl, rfl⟩
      clear cL pA
      go_wp2_with fail
      exact bodyPost_ret (v := .tuple #[im 0 0 none 0 0, .bool false]) (by simp [results, Try.results10, go_sem, z0, z1, z2]) rfl HE.out
    · have hlsT : lsB p m g = true := by rw [hls, hal]
      have hg := (lsB_parts hlsT).2
      have cI := fun w' h => imageOfLines_any p p2 p31 a m cap g hm hcap hg w' h
      have hpp : p * p ≤ 31 * 31 := Nat.mul_le_mul p31 p31
      have cN := fun a1 c1 w' h => implLines_any (p : Int) (p : Int) a1 (p * p) c1 (frX p g) (by omega) w' h
      have hln : lnN (p : Int) (p : Int) (p * p) (frX p g) ≤ 1048576 := by
        unfold lnN
        split
        · rw [Int.toNat_natCast, ← hm]; exact hl
        · omega
      have cE := fun a1 a2 c1 c2 w' h h' => slicesEqual_any a1 a2 (lnN (p : Int) (p : Int) (p * p) (frX p g)) m c1 c2 (lnF (p : Int) (frX p g)) g hln hl w' h h'
      have hEq : (decide (lnN (p : Int) (p : Int) (p * p) (frX p g) = m) && eqL (lnF (p : Int) (frX p g)) g (lnN (p : Int) (p : Int) (p * p) (frX p g))) = frT p m g := by
        unfold frT lnN lnF
        rw [Int.toNat_natCast]
        cases ht : toneB (p : Int) (p : Int) (p * p) (frX p g)
        · simp; intro hh; rw [hm] at hh; exact absurd hh.symm (Nat.ne_of_gt (Nat.mul_pos (by omega) (by omega)))
        · simp [← hm]
      rw [hEq] at cE
      have hBt : frB m g = frT p m g := by
        unfold frB l6sV; rw [hal, if_pos rfl, hp1, hpP]; simp; omega
      unfold frW frN
      rw [hBt, hpP]
      rw [hal] at cL
      unfold ImR at cI
      unfold LsR at cN
      generalize lnN (p : Int) (p : Int) (p * p) (frX p g) = NL at *
      generalize lnF (p : Int) (frX p g) = lf at *
      generalize frX p g = s at *
      generalize p * p = PP at *
      cases hT : frT p m g
      · rw [hT] at cE
        simp only [Bool.false_eq_true, if_false]
        clear hT hBt hEq hg hlsT hal hls hp1 hp2 hpP h0 hm hisP
        go_enter Try.func10, Try.ntmps10
        go_wp2_with fail
        refine (cS _).mono ?_
        rintro e w1 ⟨rfl, rfl⟩
        clear cS
        go_wp2_with fail
        refine (cL _ (HP.out.below HSt.out.below)).mono ?_
        rintro e w2 ⟨rfl, rfl⟩
        clear cL hA'
        go_wp2_with fail
        refine (cI _ (HP.out.below HSt.out.below)).mono ?_
        rintro e w3 ⟨a0, c0, b0, rfl, ho, h1, hb⟩
        have HS3 := hide ((HSt.out.own hb ho.v h1).box [.int .i64 p, .int .i64 p, .slice a0 PP c0] 26)
        generalize hxw4 : w3.alloc (.cells [.int .i64 p, .int .i64 p, .slice a0 PP c0].toArray 26) = w4 at HS3
        have hyw4 : w3.alloc (.cells #[.int .i64 p, .int .i64 p, .slice a0 PP c0] 26) = w4 := hxw4
        obtain ⟨i0, i1, i2⟩ := HS3.out.im3 0 rfl
        clear hxw4 hb ho h1 HSt cI z0 z1 z2 e0 e1 e2
        have pX := (HS3.out.nthO 0 rfl).px
        go_wp2_with fail
        refine (cN _ _ _ pX).mono ?_
        rintro e w5 ⟨a5, c5, b5, rfl, ho, h1, hb⟩
        have HS5 := hide (HS3.out.own hb ho.v h1)
        clear hb ho h1 HS3 cN pX i0 i1 i2 hyw4
        have pY := (HS5.out.nthO 0 rfl).px
        go_wp2_with fail
        refine (cE _ _ _ _ _ pY (HP.out.below HS5.out.below)).mono ?_
        rintro e w6 ⟨rfl, hb⟩
        have HS6 := hide (HS5.out.next hb)
        obtain ⟨z0, z1, z2⟩ := HS6.out.im3 1 rfl
        obtain ⟨e0, e1, e2⟩ := HS6.out.fr3 1 rfl
        have HE := hide ((St.fill3' (L1 := [_]) HS6.out (.int .i64 0) (.int .i64 0) (.slice none 0 0)).imRN s)
        clear hb HS5 HS6 cE pY
        go_wp2_with fail
        exact bodyPost_ret (v := .tuple #[im 0 0 none 0 0, .bool false]) (by simp [results, Try.results10, go_sem, z0, z1, z2]) rfl HE.out
      · rw [hT] at cE
        simp only [if_true]
        clear hT hBt hEq hg hlsT hal hls hp1 hp2 hpP h0 hm hisP
        go_enter Try.func10, Try.ntmps10
        go_wp2_with fail
        refine (cS _).mono ?_
        rintro e w1 ⟨rfl, rfl⟩
        clear cS
        go_wp2_with fail
        refine (cL _ (HP.out.below HSt.out.below)).mono ?_
        rintro e w2 ⟨rfl, rfl⟩
        clear cL hA'
        go_wp2_with fail
        refine (cI _ (HP.out.below HSt.out.below)).mono ?_
        rintro e w3 ⟨a0, c0, b0, rfl, ho, h1, hb⟩
        have HS3 := hide ((HSt.out.own hb ho.v h1).box [.int .i64 p, .int .i64 p, .slice a0 PP c0] 26)
        generalize hxw4 : w3.alloc (.cells [.int .i64 p, .int .i64 p, .slice a0 PP c0].toArray 26) = w4 at HS3
        have hyw4 : w3.alloc (.cells #[.int .i64 p, .int .i64 p, .slice a0 PP c0] 26) = w4 := hxw4
        obtain ⟨i0, i1, i2⟩ := HS3.out.im3 0 rfl
        clear hxw4 hb ho h1 HSt cI z0 z1 z2 e0 e1 e2
        have pX := (HS3.out.nthO 0 rfl).px
        go_wp2_with fail
        refine (cN _ _ _ pX).mono ?_
        rintro e w5 ⟨a5, c5, b5, rfl, ho, h1, hb⟩
        have HS5 := hide (HS3.out.own hb ho.v h1)
        clear hb ho h1 HS3 cN pX i0 i1 i2 hyw4
        have pY := (HS5.out.nthO 0 rfl).px
        go_wp2_with fail
        refine (cE _ _ _ _ _ pY (HP.out.below HS5.out.below)).mono ?_
        rintro e w6 ⟨rfl, hb⟩
        have HS6 := hide (HS5.out.next hb)
        obtain ⟨i0, i1, i2⟩ := HS6.out.im3 0 rfl
        obtain ⟨z0, z1, z2⟩ := HS6.out.im3 1 rfl
        obtain ⟨e0, e1, e2⟩ := HS6.out.fr3 1 rfl
        have HE := hide (((St.fill3' (L1 := [_]) HS6.out (.int .i64 p) (.int .i64 p) (.slice a0 PP c0)).sub (List.Sublist.refl _) (List.Sublist.cons _ (List.Sublist.refl _))).imRB p p c0 true)
        clear hb HS5 HS6 cE pY
        go_wp2_with fail
        exact bodyPost_ret (v := .tuple #[im p p a0 PP c0, .bool true]) (by simp [results, Try.results10, go_sem, z0, z1, z2]) rfl HE.out

end Go.Proofs.Ytcghjecnbingfaa
