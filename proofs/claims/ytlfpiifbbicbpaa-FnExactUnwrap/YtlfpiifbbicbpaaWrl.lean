/- Wrapping a list: the specification, the program, the law. -/
import Derived.Test.YtlfpiifbbicbpaaWrp
namespace Go.Proofs.Ytlfpiifbbicbpaa
open Go.RowKit

/-- the wrapped numbers -/
def wrpF (half : Int) (f : Nat → Int) (k : Nat) : Int := wrp half.toNat (f k)
def wrpN (half : Int) (len : Nat) (f : Nat → Int) : Nat := if phB half len f = true then len else 0

set_option maxRecDepth 100000 in
set_option maxHeartbeats 1000000 in
theorem specWrap_any (half : Int) (a : Option Addr) (len cap : Nat) (f : Nat → Int) (hl : len ≤ 1048576) (w : World) (h : Px a len f w) :
    Calls Try.prog 24 #[.slice a len cap, .int .i64 half] w (LsR (wrpN half len f) (wrpF half f) w) := by
  have HB0 : Hid (Below w.heap.size w (w.alloc (.cells #[] 2))) := bnew _ _
  have c := l4List_any half a len cap f hl _ (h.below HB0.out)
  unfold wrpN
  cases hp : phB half len f
  · rw [hp] at c
    clear hp h
    go_enter Try.func24, Try.ntmps24
    go_wp2_with fail
    refine c.mono ?_
    rintro e w1 ⟨rfl, rfl⟩
    go_wp2_with fail
    go_ret
    exact ⟨_, _, 0, rfl, .inl rfl, .inl rfl, HB0.out⟩
  · rw [hp] at c
    obtain ⟨⟨m, rfl, h1, h2⟩, h4, ha⟩ := phB_parts hp
    have HA := hide ha
    have HP := hide h
    rw [if_pos rfl]
    clear hp h ha
    go_enter Try.func24, Try.ntmps24
    go_wp2_with fail
    refine c.mono ?_
    rintro e w1 ⟨rfl, rfl⟩
    clear c
    go_wp2_with fail
    go_loopw [5, 6] (fun v i wr => ∃ k : Nat, k ≤ len ∧ i = .int .i64 k ∧ wr.ownsRow w.heap.size 2 1 v k (ints (fl (wrpF m f) k)) ∧ Below w.heap.size w wr ∧ w.heap.size < wr.heap.size) (fun _ i _ => len - (intOf i).toNat)
    case atStart => exact ⟨0, by omega, rfl, World.ownsRow_lit w #[] 0 (Nat.le_refl _) (by unfold maxLen; omega) rfl, HB0.out, by simp⟩
    case round =>
      obtain ⟨k, hk, rfl, ho, hb, hs⟩ := hrel
      clear HB0
      by_cases hlt : k < len
      · obtain ⟨b, off, rfl, hz⟩ := (HP.out.below hb).at hlt
        obtain ⟨f1, f2⟩ := allB_at HA.out k hlt
        have cW := l4Wrap_any (f k) m h1 h2 (by omega) (by omega)
        have hv : wrp m (f k) = wrpF m f k := by unfold wrpF; rw [Int.toNat_natCast]
        rw [hv] at cW
        have HO := hide ho
        have HB := hide hb
        have HS := hide (Nat.le_of_lt hs)
        have HL : Hid (k ≤ 1048576) := by show _ ≤ _; omega
        clear ho hb HA HP f1 f2 hv h1 h2 h4
        go_wp2_with fail
        refine (cW _).mono ?_
        rintro e wr ⟨rfl, rfl⟩
        clear cW
        generalize hZ : wrpF m f k = Z at *
        have HZ := hide hZ.symm
        clear hZ
        go_wp2_with (refine grow1 _ rfl _ _ rfl w.heap.size _ k (wrpF m f) rfl w HO.out HB.out HS.out Z HZ.out rfl HL.out ?_)
        intro v' w' ho' hb' hs'
        have HO' := hide ho'
        have HB' := hide hb'
        have HS' : Hid (w.heap.size < w'.heap.size) := Nat.lt_of_le_of_lt HS.out hs'
        clear HO HB HS ho' hb' hs' hz hs
        go_wp2_with fail
        exact ⟨⟨k + 1, by omega, rfl, HO'.out, HB'.out, HS'.out⟩, by simp [intOf]; omega⟩
      · obtain rfl : k = len := by omega
        clear HA HP
        go_wp2
        go_ret
        obtain ⟨a', cap', b', rfl, ow, hB⟩ := ow_fl ho
        exact ⟨a', cap', b', rfl, ow, hB, hb⟩

set_option maxRecDepth 100000 in
set_option maxHeartbeats 1000000 in
theorem implWrap_any (half : Int) (a : Option Addr) (len cap : Nat) (f : Nat → Int) (hl : len ≤ 1048576) (w : World) (h : Px a len f w) :
    Calls Try.prog 11 #[.slice a len cap, .int .i64 half] w (LsR (wrpN half len f) (wrpF half f) w) := by
  have c := isPhase_any half a len cap f hl _ h
  unfold wrpN
  cases hp : phB half len f
  · rw [hp] at c
    clear hp h
    go_enter Try.func11, Try.ntmps11
    go_wp2_with fail
    refine c.mono ?_
    rintro e w ⟨rfl, rfl⟩
    go_wp2_with fail
    go_ret
    exact ⟨_, _, 0, rfl, .inl rfl, .inl rfl, Below.refl _ _⟩
  · rw [hp] at c
    obtain ⟨⟨m, rfl, h1, h2⟩, h4, ha⟩ := phB_parts hp
    have HA := hide ha
    have HP := hide h
    rw [if_pos rfl]
    clear hp h ha
    obtain ⟨cur, hcur, hmk⟩ := make_cap len (by omega) w
    have HO0 : Hid ((w.alloc (.cells cur 2)).ownsRow w.heap.size 2 1 (.slice (some ⟨w.heap.size, 0, none⟩) 0 len) 0 []) := World.ownsRow_made w cur len (Nat.le_refl _) (by unfold maxLen; omega) hcur
    have HB0 : Hid (Below w.heap.size w (w.alloc (.cells cur 2))) := bnew _ _
    clear hcur
    go_enter Try.func11, Try.ntmps11
    go_wp2_with fail
    refine c.mono ?_
    rintro e w ⟨rfl, rfl⟩
    clear c
    go_wp2_with fail
    go_loopw [5, 7, 17] (fun v _ i wr => ∃ k : Nat, k ≤ len ∧ i = .int .i64 k ∧ wr.ownsRow w.heap.size 2 1 v k (ints (fl (wrpF m f) k)) ∧ Below w.heap.size w wr) (fun _ _ i _ => len - (intOf i).toNat)
    case atStart => exact ⟨0, by omega, rfl, HO0.out, HB0.out⟩
    case round =>
      obtain ⟨k, hk, rfl, ho, hb⟩ := hrel
      clear HB0 HO0 hmk
      by_cases hlt : k < len
      · obtain ⟨b, off, rfl, hz⟩ := (HP.out.below hb).at hlt
        obtain ⟨f1, f2⟩ := allB_at HA.out k hlt
        have cW := wrapOne_any (f k) m h1 h2 (by omega) (by omega)
        have hv : wrp m (f k) = wrpF m f k := by unfold wrpF; rw [Int.toNat_natCast]
        rw [hv] at cW
        have HO := hide ho
        have HB := hide hb
        have HS := hide hb.size
        have HL : Hid (k ≤ 1048576) := by show _ ≤ _; omega
        clear ho hb HA HP f1 f2 hv h1 h2 h4
        go_wp2_with fail
        refine (cW _).mono ?_
        rintro e wr ⟨rfl, rfl⟩
        clear cW
        generalize hZ : wrpF m f k = Z at *
        have HZ := hide hZ.symm
        clear hZ
        go_wp2_with (refine grow1 _ rfl _ _ rfl w.heap.size _ k (wrpF m f) rfl w HO.out HB.out HS.out Z HZ.out rfl HL.out ?_)
        intro v' w' ho' hb' hs'
        have HO' := hide ho'
        have HB' := hide hb'
        clear HO HB HS ho' hb' hs' hz
        go_wp2_with fail
        exact ⟨⟨k + 1, by omega, rfl, HO'.out, HB'.out⟩, by simp [intOf]; omega⟩
      · obtain rfl : k = len := by omega
        clear HA HP
        go_wp2
        go_ret
        obtain ⟨a', cap', b', rfl, ow, hB⟩ := ow_fl ho
        exact ⟨a', cap', b', rfl, ow, hB, hb⟩

set_option maxRecDepth 100000 in
set_option maxHeartbeats 300000 in
theorem fnExactWrap_walk (a : Option Addr) (len cap : Nat) (f : Nat → Int) (hl : len ≤ maxLen) (half : Int) (w : World) (h : Px a len f w) :
    Calls Try.prog 7 #[.slice a len cap, .int .i64 half] w fun e w' => e = .returned (.bool true) ∧ Below w.heap.size w w' := by
  unfold maxLen at hl
  by_cases hbig : (1048576 : Int) < len
  · clear h hl
    go_enter Try.func7, Try.ntmps7
    go_wp2_with fail
    go_ret
    exact ⟨rfl, Below.refl _ _⟩
  have hL : len ≤ 1048576 := by omega
  have HP := hide h
  have cT := toInts_any a len cap f hL
  have cS := fun a' w' => specWrap_any half a' len len f hL w'
  have cI := fun a' w' => implWrap_any half a' len len f hL w'
  have cA := fun a1 a2 => eqInts_b a1 a2 len len len f hL
  have cM := fun a' b => mark_any a' b len len f 1 (by omega) (by omega) hL
  unfold LsR at cS cI
  have hrn : wrpN half len f ≤ 1048576 := by
    unfold wrpN
    split <;> omega
  clear h hl
  generalize wrpN half len f = rN at *
  generalize wrpF half f = s at *
  have cE := fun a1 a2 c1 c2 => eqInts_b a1 a2 rN c1 c2 s hrn
  have cN := fun a' b c1 => mark_any a' b rN c1 s 1 (by omega) (by omega) hrn
  have cH := fun a' b c1 => held_any a' b rN c1 1 (by omega) (by omega) hrn
  have q0 : ¬ 1 + (rN : Int) < 0 := by omega
  have q1 : (1 + (rN : Int) != 1 + (rN : Int)) = false := by simp
  have q2 : ¬ 1 + (len : Int) < 0 := by omega
  go_enter Try.func7, Try.ntmps7
  go_wp2_with fail
  refine (cT _ HP.out).mono ?_
  rintro e w1 ⟨rfl, hr, hb, hs⟩
  have HS1 := hide ((St.start w).own hb hr.v (.inr (Nat.le_refl _)))
  clear hr hb hs
  have pA := (HS1.out.nthO 0 rfl).px
  go_wp2_with fail
  refine (cS _ _ pA).mono ?_
  rintro e w2 ⟨a0, c0, b0, rfl, ho, h1, hb⟩
  have HS2 := hide (HS1.out.own hb ho.v h1)
  clear h1 ho hb HS1 pA cS
  go_wp2_with fail
  refine (cT _ (HP.out.below HS2.out.below)).mono ?_
  rintro e w3 ⟨rfl, hr, hb, hs⟩
  have HS3 := hide (HS2.out.own hb hr.v (.inr (Nat.le_refl _)))
  generalize hbx : w2.heap.size = bx at *
  clear hr hb hs HS2
  have pA := (HS3.out.nthO 0 rfl).px
  go_wp2_with fail
  refine (cI _ _ pA).mono ?_
  rintro e w4 ⟨a9, c9, b9, rfl, ho, h1, hb⟩
  have HS4 := hide (HS3.out.own hb ho.v h1)
  clear h1 ho hb HS3 pA
  have pA := (HS4.out.nthO 0 rfl).px
  have pB := (HS4.out.nthO 2 rfl).px
  go_wp2_with fail
  refine (cE _ _ _ _ _ pA pB).mono ?_
  rintro e w5 ⟨rfl, hb⟩
  have HS5 := hide (HS4.out.next hb)
  clear HS4 hb pA pB
  go_wp2_with fail
  refine (cT _ (HP.out.below HS5.out.below)).mono ?_
  rintro e w6 ⟨rfl, hr, hb, hs⟩
  have pB := hr.px
  have HS6 := hide (HS5.out.next hb)
  have pA := (HS6.out.nthO 1 rfl).px
  clear hr hb hs HS5
  go_wp2_with fail
  refine (cA _ _ _ pA pB).mono ?_
  rintro e w7 ⟨rfl, hb⟩
  have HS7 := hide (HS6.out.next hb)
  clear HS6 hb pA pB
  go_wp2_with fail
  refine (cM _ _ _ (HS7.out.nthO 1 rfl).bk.i).mono ?_
  rintro e w8 ⟨rfl, ho, hk, -⟩
  have HS8 := hide (HS7.out.mark (O1 := [_]) hk ho.v)
  clear HS7 hk ho cM
  have pA := (HS8.out.nthO 0 rfl).px
  have pB := (HS8.out.nthO 2 rfl).px
  go_wp2_with fail
  refine (cE _ _ _ _ _ pA pB).mono ?_
  rintro e w9 ⟨rfl, hb⟩
  have HS9 := hide (HS8.out.next hb)
  clear HS8 hb pA pB
  go_wp2_with fail
  refine (cN _ _ _ _ (HS9.out.nthO 0 rfl).bk.i).mono ?_
  rintro e w10 ⟨rfl, ho, hk, -⟩
  have HS10 := hide (HS9.out.mark (O1 := []) hk ho.v)
  clear HS9 ho hk
  go_wp2_with fail
  refine (cH _ _ _ _ (HS10.out.nthO 0 rfl).i).mono ?_
  rintro e w11 ⟨rfl, rfl⟩
  go_wp2_with fail
  refine (cT _ (HP.out.below HS10.out.below)).mono ?_
  rintro e w12 ⟨rfl, hr, hb, hs⟩
  have HS12 := hide (HS10.out.next hb)
  have pA := hr.px
  clear hr hb hs HS10
  go_wp2_with fail
  refine (cI _ _ pA).mono ?_
  rintro e w13 ⟨a1, c1, b1, rfl, ho, h1, hb⟩
  have HS13 := hide (HS12.out.own hb ho.v h1)
  clear h1 ho hb HS12 pA cI cT
  have pA := (HS13.out.nthO 0 rfl).px
  have pB := (HS13.out.nthO 3 rfl).px
  go_wp2_with fail
  refine (cE _ _ _ _ _ pA pB).mono ?_
  rintro e w14 ⟨rfl, hb⟩
  have HS14 := hide (HS13.out.next hb)
  clear HS13 hb pA pB
  go_wp2_with fail
  refine (cH _ _ _ _ (HS14.out.nthO 1 rfl).i).mono ?_
  rintro e w15 ⟨rfl, rfl⟩
  have HB := hide HS14.out.below
  clear HS14
  go_wp2_with fail
  go_ret
  exact ⟨rfl, HB.out⟩

end Go.Proofs.Ytlfpiifbbicbpaa
