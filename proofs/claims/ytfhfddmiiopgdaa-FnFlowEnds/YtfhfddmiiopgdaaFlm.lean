/- An order is moved on. -/
import Derived.Test.YtfhfddmiiopgdaaFlr
import Derived.Test.YtfhfddmiiopgdaaAcs
namespace Go.Proofs.Ytfhfddmiiopgdaa
open Go.RowKit

/-- the code of a move -/
def mvC (kd : Int) (fnd : Bool) (s : Int) : Int := if fnd = false then 5 else if opB s = false then 6 else if (kd = 2 ∧ s = 2) ∨ (kd = 3 ∧ s = 1) then 7 else 0
/-- the orders behind a move -/
def mvL (kd c : Int) (fnd : Bool) (p : Nat) (L : List Int) : List Int := if mvC kd fnd (gL L (p * 4 + 1)) = 0 then (L.set (p * 4 + 1) kd).set (p * 4 + 3) (if kd = 2 then gL L (p * 4 + 3) else c) else L
theorem set_self (L : List Int) (k : Nat) : L.set k (gL L k) = L := by
  apply List.ext_getElem?
  intro i
  by_cases h : i = k
  · subst h
    by_cases hi : i < L.length
    · rw [List.getElem?_set_self hi, List.getElem?_eq_getElem hi]
      unfold gL
      rw [List.getD_eq_getElem?_getD, List.getElem?_eq_getElem hi]; rfl
    · rw [List.getElem?_eq_none (by simpa using hi), List.getElem?_eq_none (by omega)]
  · rw [List.getElem?_set_ne (by omega)]
theorem set4 {L : List Int} {p : Nat} {s e : Int} : (((L.set (p * 4) (gL L (p * 4))).set (p * 4 + 1) s).set (p * 4 + 2) (gL L (p * 4 + 2))).set (p * 4 + 3) e = (L.set (p * 4 + 1) s).set (p * 4 + 3) e := by
  rw [set_self]
  have : (L.set (p * 4 + 1) s).set (p * 4 + 2) (gL L (p * 4 + 2)) = L.set (p * 4 + 1) s := by
    have h := gL_set L (p * 4 + 2) (p * 4 + 1) s (by omega)
    rw [← h]; exact set_self _ _
  rw [this]

theorem FSG.other {Gh : Nat → Option Obj} {B P : Nat} {c : Int} {v : Value} {n : Nat} {L : List Int} {w : World} (h : FSG Gh B P c v n L w) {q : Addr} (hP : P ≠ q.block) (hv : ∀ b, v.ownBlock = some b → b ≠ q.block) (hG : ∀ k o, Gh k = some o → k ≠ q.block) (u : Value) : FSG Gh B P c v n L (w.setCell q u) :=
  ⟨h.box.kept ((Kept.refl q.block w).setCell rfl _) hP, owns_farO h.own fun b hb => Below.heap_setCell w q _ b (hv b hb), h.hB, h.far, h.setS _ _ hG⟩

set_option maxRecDepth 100000 in
set_option maxHeartbeats 4000000 in
theorem implMove_any {Gh : Nat → Option Obj} (B P : Nat) (c : Int) (v : Value) (n : Nat) (L : List Int) (kd id du : Int) (hkd : kd = 2 ∨ kd = 3 ∨ kd = 4) (hn : n ≤ 1048576) (hr : risL L n) (w : World) (h : FSG Gh B P c v n L w) :
    Calls Try.prog 27 #[.pointer (some ⟨P, 0, none⟩), vAct kd id du] w fun e w' => ∃ p, isPl (gL L) n id p ∧ e = .returned (.int .i64 (mvC kd (decide (p < n ∧ gL L (p * 4) = id)) (gL L (p * 4 + 1)))) ∧ FSG Gh B P c v n (mvL kd c (decide (p < n ∧ gL L (p * 4) = id)) p L) w' ∧ Below B w w' := by
  obtain ⟨W, hW⟩ : ∃ W, W = w.alloc (cAct kd id du 30) := ⟨_, rfl⟩
  have hWB : Below w.heap.size w W := by rw [hW]; exact bnew _ _
  have hWs : w.heap.size < W.heap.size := by rw [hW]; simp
  obtain ⟨i0, i1, i2⟩ : BAct w.heap.size kd id du W := by rw [hW]; exact BAct.new _ _ _ _ _
  have hW' := hW.symm
  have HI : Hid (∀ wz, Below W.heap.size W wz → BAct w.heap.size kd id du wz) := fun wz hb => BAct.below ⟨i0, i1, i2⟩ hb hWs
  have HFW := hide (h.below hWB)
  have HB0 : Hid (Below B w W) := hWB.mono (Nat.le_trans h.hB (Nat.le_of_lt h.lt))
  have cP := placeOf_any B P c v n L id hn hr W HFW.out
  clear h hW hWB hWs hr
  go_enter Try.func27, Try.ntmps27
  go_wp2_with fail
  refine cP.mono ?_
  rintro e w1 ⟨⟨p, rfl, hp⟩, hb1⟩
  have HPL := hide hp
  have HF1 := hide (HFW.out.below hb1)
  have HB1 : Hid (Below B w w1) := HB0.out.trans (hb1.mono (Nat.le_trans HFW.out.hB (Nat.le_of_lt HFW.out.lt)))
  have HI1 := hide (HI.out w1 hb1)
  clear cP hp hb1 HFW HB0 HI i0 i1 i2 hW'
  by_cases hf : p < n ∧ gL L (p * 4) = id
  case neg =>
    have hfd : decide (p < n ∧ gL L (p * 4) = id) = false := decide_eq_false hf
    have HX : Hid (∃ p', isPl (gL L) n id p' ∧ Ending.returned (.int .i64 5) = .returned (.int .i64 (mvC kd (decide (p' < n ∧ gL L (p' * 4) = id)) (gL L (p' * 4 + 1)))) ∧ FSG Gh B P c v n (mvL kd c (decide (p' < n ∧ gL L (p' * 4) = id)) p' L) w1 ∧ Below B w w1) :=
      ⟨p, HPL.out, by rw [hfd]; rfl, by rw [hfd]; exact HF1.out, HB1.out⟩
    rw [hfd]
    clear HPL HF1 HB1 HI1 hf hfd
    go_wp2_with fail
    go_ret
    exact HX.out
  have hfd : decide (p < n ∧ gL L (p * 4) = id) = true := decide_eq_true hf
  obtain ⟨b, cp, rfl, hBb, hcl⟩ := HF1.out.form (by omega)
  obtain ⟨z0, -⟩ := hcl (p * 4) (by omega)
  obtain ⟨z1, -⟩ := hcl (p * 4 + 1) (by omega)
  obtain ⟨z2, -⟩ := hcl (p * 4 + 2) (by omega)
  obtain ⟨z3, -⟩ := hcl (p * 4 + 3) (by omega)
  have j1 := (HF1.out.box 1 _ rfl).1
  have HX : Hid (∀ code L' w', mvC kd true (gL L (p * 4 + 1)) = code → mvL kd c true p L = L' → FSG Gh B P c (.slice (some ⟨b, 0, none⟩) n cp) n L' w' → Below B w w' → ∃ p', isPl (gL L) n id p' ∧ Ending.returned (.int .i64 code) = .returned (.int .i64 (mvC kd (decide (p' < n ∧ gL L (p' * 4) = id)) (gL L (p' * 4 + 1)))) ∧ FSG Gh B P c (.slice (some ⟨b, 0, none⟩) n cp) n (mvL kd c (decide (p' < n ∧ gL L (p' * 4) = id)) p' L) w' ∧ Below B w w') := fun code L' w' h1 h2 h3 h4 =>
      ⟨p, HPL.out, by rw [hfd, h1], by rw [hfd, h2]; exact h3, h4⟩
  have HMV : Hid (mvL kd c true p L = if mvC kd true (gL L (p * 4 + 1)) = 0 then (L.set (p * 4 + 1) kd).set (p * 4 + 3) (if kd = 2 then gL L (p * 4 + 3) else c) else L) := rfl
  have HS4 : Hid (∀ s e, (((L.set (p * 4) (gL L (p * 4))).set (p * 4 + 1) s).set (p * 4 + 2) (gL L (p * 4 + 2))).set (p * 4 + 3) e = (L.set (p * 4 + 1) s).set (p * 4 + 3) e) := fun s e => set4
  rw [hfd]
  have hpn : p < n := hf.1
  clear hcl hfd hf HPL
  have cO := isOpenOrder_any (gL L (p * 4)) (gL L (p * 4 + 1)) (gL L (p * 4 + 2)) (gL L (p * 4 + 3))
  obtain ⟨wb, hwb⟩ : ∃ wb, wb = w1.alloc (cOrder (gL L (p * 4)) (gL L (p * 4 + 1)) (gL L (p * 4 + 2)) (gL L (p * 4 + 3)) 41) := ⟨_, rfl⟩
  have hbb : Below w1.heap.size w1 wb := by rw [hwb]; exact bnew _ _
  have hbs : w1.heap.size < wb.heap.size := by rw [hwb]; simp
  have HBX : Hid (Bx w1.heap.size [.int .i64 (gL L (p * 4)), .int .i64 (gL L (p * 4 + 1)), .int .i64 (gL L (p * 4 + 2)), .int .i64 (gL L (p * 4 + 3))] wb) := by rw [hwb]; exact Bx.new [.int .i64 (gL L (p * 4)), .int .i64 (gL L (p * 4 + 1)), .int .i64 (gL L (p * 4 + 2)), .int .i64 (gL L (p * 4 + 3))] 41 w1
  have hwb' := hwb.symm
  have HFb := hide (HF1.out.below hbb)
  have HBb : Hid (Below B w wb) := HB1.out.trans (hbb.mono (Nat.le_trans HF1.out.hB (Nat.le_of_lt HF1.out.lt)))
  have HIb := hide (HI1.out.below hbb (World.block_lt_of_cell? _ _ HI1.out.1))
  have hGX : Hid (∀ k o, Gh k = some o → k ≠ w1.heap.size) := fun k o hk => Nat.ne_of_lt (HF1.out.old hk)
  have hPne : P ≠ w1.heap.size := by have := HF1.out.lt; omega
  have hbne : b ≠ w1.heap.size := by have := (HF1.out.own.lt b rfl).2; omega
  have hAne : w.heap.size ≠ w1.heap.size := by have : w.heap.size < w1.heap.size := World.block_lt_of_cell? _ _ HI1.out.1; omega
  have hBX : B ≤ w1.heap.size := Nat.le_trans HF1.out.hB (Nat.le_of_lt HF1.out.lt)
  have q0 := (HBX.out 0 _ rfl).1
  have q1 := (HBX.out 1 _ rfl).1
  have q2 := (HBX.out 2 _ rfl).1
  have q3 := (HBX.out 3 _ rfl).1
  clear hwb hbb HF1 HB1 HI1
  generalize gL L (p * 4) = y0 at *
  generalize gL L (p * 4 + 1) = y1 at *
  generalize gL L (p * 4 + 2) = y2 at *
  generalize gL L (p * 4 + 3) = y3 at *
  go_wp2_with fail
  refine (cO _).mono ?_
  rintro e w2 ⟨rfl, hb2⟩
  have HBX2 := hide (HBX.out.below hb2 hbs)
  have HF2 := hide (HFb.out.below hb2)
  have HB2 : Hid (Below B w w2) := HBb.out.trans (hb2.mono (Nat.le_trans HFb.out.hB (Nat.le_of_lt HFb.out.lt)))
  have HI2 := hide (HIb.out.below hb2 (World.block_lt_of_cell? _ _ HIb.out.1))
  clear cO hb2 hwb' HBX HFb HBb HIb z0 z1 z2 z3 j1 q0 q1 q2 q3
  generalize w1.heap.size = X at *
  cases hop : opB y1
  · have HV := hide (HX.out 6 L w2 (by unfold mvC; rw [hop]; rfl) (by rw [HMV.out]; unfold mvC; rw [hop]; rfl) HF2.out HB2.out)
    clear HX HMV HS4 HF2 HB2 HI2 HBX2
    go_wp2_with fail
    go_ret
    exact HV.out
  have hy1 : y1 = 1 ∨ y1 = 2 := by unfold opB at hop; simpa using hop
  clear hop
  obtain ⟨i0, i1, i2⟩ := HI2.out
  have q0 := (HBX2.out 0 _ rfl).1
  have q1 := (HBX2.out 1 _ rfl).1
  have q2 := (HBX2.out 2 _ rfl).1
  have q3 := (HBX2.out 3 _ rfl).1
  rcases hkd with rfl | rfl | rfl
  · rcases hy1 with rfl | rfl
    · have HBXc := hide (HBX2.out.set 1 (.int .i64 2))
      have HFc := hide (HF2.out.other (q := ⟨X, 1, none⟩) hPne (fun b' hb' => by cases hb'; exact hbne) hGX.out (.int .i64 2))
      have HBc : Hid (Below B w (w2.setCell ⟨X, 1, none⟩ (.int .i64 2))) := HB2.out.setCell hBX _
      have fq1 := (HBX2.out 1 _ rfl).2
      clear HBX2 HF2 HB2 HI2
      go_upto_region 16 with fail
      generalize w2.setCell ⟨X, 1, none⟩ (.int .i64 2) = wc at *
      clear q0 q1 q2 q3 i0 i1 i2 fq1
      have j1 := (HFc.out.box 1 _ rfl).1
      obtain ⟨b', cp', hbe, -, hcl⟩ := HFc.out.form (by omega)
      cases hbe
      obtain ⟨z0, g0⟩ := hcl (p * 4) (by omega)
      obtain ⟨z1, g1⟩ := hcl (p * 4 + 1) (by omega)
      obtain ⟨z2, g2⟩ := hcl (p * 4 + 2) (by omega)
      obtain ⟨z3, g3⟩ := hcl (p * 4 + 3) (by omega)
      have q0 := (HBXc.out 0 _ rfl).1
      have q1 := (HBXc.out 1 _ rfl).1
      have q2 := (HBXc.out 2 _ rfl).1
      have q3 := (HBXc.out 3 _ rfl).1
      have HFd : Hid (FSG Gh B P c (.slice (some ⟨b, 0, none⟩) n cp) n L wc.drew) := HFc.out.below (Below.refl _ _).drew
      have HFF := hide ((((HFd.out.set (p * 4) y0).set (p * 4 + 1) 2).set (p * 4 + 2) y2).set (p * 4 + 3) y3)
      rw [HS4.out] at HFF
      have HBF : Hid (Below B w ((((wc.drew.setCell ⟨b, p * 4, none⟩ (.int .i64 y0)).setCell ⟨b, p * 4 + 1, none⟩ (.int .i64 2)).setCell ⟨b, p * 4 + 2, none⟩ (.int .i64 y2)).setCell ⟨b, p * 4 + 3, none⟩ (.int .i64 y3))) := (((HBc.out.drew.setCell hBb _).setCell hBb _).setCell hBb _).setCell hBb _
      have HV := hide (HX.out 0 _ _ (by rfl) (by rw [HMV.out]; rfl) HFF.out HBF.out)
      clear hcl HX HMV HS4 HFc HFd HBc HBXc HFF HBF
      go_wp2_with fail
      go_region
      all_goals
        go_wp2_with fail
        go_ret
        exact HV.out

    · have HV := hide (HX.out 7 L w2 (by rfl) (by rw [HMV.out]; rfl) HF2.out HB2.out)
      clear HX HMV HS4 HF2 HB2 HI2 HBX2
      go_wp2_with fail
      go_ret
      exact HV.out

  · rcases hy1 with rfl | rfl
    · have HV := hide (HX.out 7 L w2 (by rfl) (by rw [HMV.out]; rfl) HF2.out HB2.out)
      clear HX HMV HS4 HF2 HB2 HI2 HBX2
      go_wp2_with fail
      go_ret
      exact HV.out

    · have j0 := (HF2.out.box 0 _ rfl).1
      have fq1 := (HBX2.out 1 _ rfl).2
      have fq3 := (HBX2.out 3 _ rfl).2
      have HU : Hid (Bx X [.int .i64 y0, .int .i64 3, .int .i64 y2, .int .i64 c] ((w2.setCell ⟨X, 1, none⟩ (.int .i64 3)).setCell ⟨X, 3, none⟩ (.int .i64 c)).drew ∧ FSG Gh B P c (.slice (some ⟨b, 0, none⟩) n cp) n L ((w2.setCell ⟨X, 1, none⟩ (.int .i64 3)).setCell ⟨X, 3, none⟩ (.int .i64 c)).drew ∧ Below B w ((w2.setCell ⟨X, 1, none⟩ (.int .i64 3)).setCell ⟨X, 3, none⟩ (.int .i64 c)).drew) :=
        ⟨Bx.set (Bx.set (w := w2.drew) HBX2.out 1 (.int .i64 3)) 3 (.int .i64 c), ((HF2.out.below (Below.refl _ _).drew).other (q := ⟨X, 1, none⟩) hPne (fun b' hb' => by cases hb'; exact hbne) hGX.out _).other (q := ⟨X, 3, none⟩) hPne (fun b' hb' => by cases hb'; exact hbne) hGX.out _, (HB2.out.drew.setCell hBX _).setCell hBX _⟩
      clear HBX2 HF2 HB2 HI2
      go_upto_region 13 with fail
      go_region
      all_goals
        obtain ⟨hq, hF, hB⟩ := HU.out
        have HBXc := hide hq
        have HFc := hide hF
        have HBc := hide hB
        clear hq hF hB HU q0 q1 q2 q3 i0 i1 i2 j0 fq1 fq3
        go_upto_region 16 with fail
        generalize ((w2.setCell ⟨X, 1, none⟩ (.int .i64 3)).setCell ⟨X, 3, none⟩ (.int .i64 c)).drew = wc at *
        have j1 := (HFc.out.box 1 _ rfl).1
        obtain ⟨b', cp', hbe, -, hcl⟩ := HFc.out.form (by omega)
        cases hbe
        obtain ⟨z0, g0⟩ := hcl (p * 4) (by omega)
        obtain ⟨z1, g1⟩ := hcl (p * 4 + 1) (by omega)
        obtain ⟨z2, g2⟩ := hcl (p * 4 + 2) (by omega)
        obtain ⟨z3, g3⟩ := hcl (p * 4 + 3) (by omega)
        have q0 := (HBXc.out 0 _ rfl).1
        have q1 := (HBXc.out 1 _ rfl).1
        have q2 := (HBXc.out 2 _ rfl).1
        have q3 := (HBXc.out 3 _ rfl).1
        have HFd : Hid (FSG Gh B P c (.slice (some ⟨b, 0, none⟩) n cp) n L wc.drew) := HFc.out.below (Below.refl _ _).drew
        have HFF := hide ((((HFd.out.set (p * 4) y0).set (p * 4 + 1) 3).set (p * 4 + 2) y2).set (p * 4 + 3) c)
        rw [HS4.out] at HFF
        have HBF : Hid (Below B w ((((wc.drew.setCell ⟨b, p * 4, none⟩ (.int .i64 y0)).setCell ⟨b, p * 4 + 1, none⟩ (.int .i64 3)).setCell ⟨b, p * 4 + 2, none⟩ (.int .i64 y2)).setCell ⟨b, p * 4 + 3, none⟩ (.int .i64 c))) := (((HBc.out.drew.setCell hBb _).setCell hBb _).setCell hBb _).setCell hBb _
        have HV := hide (HX.out 0 _ _ (by rfl) (by rw [HMV.out]; rfl) HFF.out HBF.out)
        clear hcl HX HMV HS4 HFc HFd HBc HBXc HFF HBF
        go_wp2_with fail
        go_region
        all_goals
          go_wp2_with fail
          go_ret
          exact HV.out

  · rcases hy1 with rfl | rfl
    · have j0 := (HF2.out.box 0 _ rfl).1
      have fq1 := (HBX2.out 1 _ rfl).2
      have fq3 := (HBX2.out 3 _ rfl).2
      have HU : Hid (Bx X [.int .i64 y0, .int .i64 4, .int .i64 y2, .int .i64 c] ((w2.setCell ⟨X, 1, none⟩ (.int .i64 4)).setCell ⟨X, 3, none⟩ (.int .i64 c)).drew ∧ FSG Gh B P c (.slice (some ⟨b, 0, none⟩) n cp) n L ((w2.setCell ⟨X, 1, none⟩ (.int .i64 4)).setCell ⟨X, 3, none⟩ (.int .i64 c)).drew ∧ Below B w ((w2.setCell ⟨X, 1, none⟩ (.int .i64 4)).setCell ⟨X, 3, none⟩ (.int .i64 c)).drew) :=
        ⟨Bx.set (Bx.set (w := w2.drew) HBX2.out 1 (.int .i64 4)) 3 (.int .i64 c), ((HF2.out.below (Below.refl _ _).drew).other (q := ⟨X, 1, none⟩) hPne (fun b' hb' => by cases hb'; exact hbne) hGX.out _).other (q := ⟨X, 3, none⟩) hPne (fun b' hb' => by cases hb'; exact hbne) hGX.out _, (HB2.out.drew.setCell hBX _).setCell hBX _⟩
      clear HBX2 HF2 HB2 HI2
      go_upto_region 15 with fail
      go_region
      all_goals
        obtain ⟨hq, hF, hB⟩ := HU.out
        have HBXc := hide hq
        have HFc := hide hF
        have HBc := hide hB
        clear hq hF hB HU q0 q1 q2 q3 i0 i1 i2 j0 fq1 fq3
        go_upto_region 16 with fail
        generalize ((w2.setCell ⟨X, 1, none⟩ (.int .i64 4)).setCell ⟨X, 3, none⟩ (.int .i64 c)).drew = wc at *
        have j1 := (HFc.out.box 1 _ rfl).1
        obtain ⟨b', cp', hbe, -, hcl⟩ := HFc.out.form (by omega)
        cases hbe
        obtain ⟨z0, g0⟩ := hcl (p * 4) (by omega)
        obtain ⟨z1, g1⟩ := hcl (p * 4 + 1) (by omega)
        obtain ⟨z2, g2⟩ := hcl (p * 4 + 2) (by omega)
        obtain ⟨z3, g3⟩ := hcl (p * 4 + 3) (by omega)
        have q0 := (HBXc.out 0 _ rfl).1
        have q1 := (HBXc.out 1 _ rfl).1
        have q2 := (HBXc.out 2 _ rfl).1
        have q3 := (HBXc.out 3 _ rfl).1
        have HFd : Hid (FSG Gh B P c (.slice (some ⟨b, 0, none⟩) n cp) n L wc.drew) := HFc.out.below (Below.refl _ _).drew
        have HFF := hide ((((HFd.out.set (p * 4) y0).set (p * 4 + 1) 4).set (p * 4 + 2) y2).set (p * 4 + 3) c)
        rw [HS4.out] at HFF
        have HBF : Hid (Below B w ((((wc.drew.setCell ⟨b, p * 4, none⟩ (.int .i64 y0)).setCell ⟨b, p * 4 + 1, none⟩ (.int .i64 4)).setCell ⟨b, p * 4 + 2, none⟩ (.int .i64 y2)).setCell ⟨b, p * 4 + 3, none⟩ (.int .i64 c))) := (((HBc.out.drew.setCell hBb _).setCell hBb _).setCell hBb _).setCell hBb _
        have HV := hide (HX.out 0 _ _ (by rfl) (by rw [HMV.out]; rfl) HFF.out HBF.out)
        clear hcl HX HMV HS4 HFc HFd HBc HBXc HFF HBF
        go_wp2_with fail
        go_region
        all_goals
          go_wp2_with fail
          go_ret
          exact HV.out

    · have j0 := (HF2.out.box 0 _ rfl).1
      have fq1 := (HBX2.out 1 _ rfl).2
      have fq3 := (HBX2.out 3 _ rfl).2
      have HU : Hid (Bx X [.int .i64 y0, .int .i64 4, .int .i64 y2, .int .i64 c] ((w2.setCell ⟨X, 1, none⟩ (.int .i64 4)).setCell ⟨X, 3, none⟩ (.int .i64 c)).drew ∧ FSG Gh B P c (.slice (some ⟨b, 0, none⟩) n cp) n L ((w2.setCell ⟨X, 1, none⟩ (.int .i64 4)).setCell ⟨X, 3, none⟩ (.int .i64 c)).drew ∧ Below B w ((w2.setCell ⟨X, 1, none⟩ (.int .i64 4)).setCell ⟨X, 3, none⟩ (.int .i64 c)).drew) :=
        ⟨Bx.set (Bx.set (w := w2.drew) HBX2.out 1 (.int .i64 4)) 3 (.int .i64 c), ((HF2.out.below (Below.refl _ _).drew).other (q := ⟨X, 1, none⟩) hPne (fun b' hb' => by cases hb'; exact hbne) hGX.out _).other (q := ⟨X, 3, none⟩) hPne (fun b' hb' => by cases hb'; exact hbne) hGX.out _, (HB2.out.drew.setCell hBX _).setCell hBX _⟩
      clear HBX2 HF2 HB2 HI2
      go_upto_region 15 with fail
      go_region
      all_goals
        obtain ⟨hq, hF, hB⟩ := HU.out
        have HBXc := hide hq
        have HFc := hide hF
        have HBc := hide hB
        clear hq hF hB HU q0 q1 q2 q3 i0 i1 i2 j0 fq1 fq3
        go_upto_region 16 with fail
        generalize ((w2.setCell ⟨X, 1, none⟩ (.int .i64 4)).setCell ⟨X, 3, none⟩ (.int .i64 c)).drew = wc at *
        have j1 := (HFc.out.box 1 _ rfl).1
        obtain ⟨b', cp', hbe, -, hcl⟩ := HFc.out.form (by omega)
        cases hbe
        obtain ⟨z0, g0⟩ := hcl (p * 4) (by omega)
        obtain ⟨z1, g1⟩ := hcl (p * 4 + 1) (by omega)
        obtain ⟨z2, g2⟩ := hcl (p * 4 + 2) (by omega)
        obtain ⟨z3, g3⟩ := hcl (p * 4 + 3) (by omega)
        have q0 := (HBXc.out 0 _ rfl).1
        have q1 := (HBXc.out 1 _ rfl).1
        have q2 := (HBXc.out 2 _ rfl).1
        have q3 := (HBXc.out 3 _ rfl).1
        have HFd : Hid (FSG Gh B P c (.slice (some ⟨b, 0, none⟩) n cp) n L wc.drew) := HFc.out.below (Below.refl _ _).drew
        have HFF := hide ((((HFd.out.set (p * 4) y0).set (p * 4 + 1) 4).set (p * 4 + 2) y2).set (p * 4 + 3) c)
        rw [HS4.out] at HFF
        have HBF : Hid (Below B w ((((wc.drew.setCell ⟨b, p * 4, none⟩ (.int .i64 y0)).setCell ⟨b, p * 4 + 1, none⟩ (.int .i64 4)).setCell ⟨b, p * 4 + 2, none⟩ (.int .i64 y2)).setCell ⟨b, p * 4 + 3, none⟩ (.int .i64 c))) := (((HBc.out.drew.setCell hBb _).setCell hBb _).setCell hBb _).setCell hBb _
        have HV := hide (HX.out 0 _ _ (by rfl) (by rw [HMV.out]; rfl) HFF.out HBF.out)
        clear hcl HX HMV HS4 HFc HFd HBc HBXc HFF HBF
        go_wp2_with fail
        go_region
        all_goals
          go_wp2_with fail
          go_ret
          exact HV.out


end Go.Proofs.Ytfhfddmiiopgdaa
