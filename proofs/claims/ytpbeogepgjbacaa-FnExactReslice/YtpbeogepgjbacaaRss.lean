/- Reslice, the specification. -/
import Derived.Test.YtpbeogepgjbacaaRsi
import Derived.Test.YtpbeogepgjbacaaMvs
namespace Go.Proofs.Ytpbeogepgjbacaa
open Go.RowKit Go.Lib

/-- until the append, all stays -/
def pR (ka S : Nat) (wx : World) (L : List Int) (u : Nat → Value) (w : World) : Prop := u S = undef → Below wx.heap.size wx w ∨ Grw L (u ka)
theorem pR_up {ka S : Nat} {wx : World} {L : List Int} {u : Nat → Value} {w w' : World} (h : pR ka S wx L u w) (hb : Below w.heap.size w w') (i : Nat) (hka : ka ≠ i) (hS : S ≠ i) (v : Value) : pR ka S wx L (upU u i v) w' := by
  intro h0
  rw [upU_other u v hS] at h0
  rw [upU_other u v hka]
  exact (h h0).imp (fun h => h.trans (hb.mono h.size)) id
/-- the boxes: the new volume, the answer, the frame, the volume -/
def rtL (B O : Nat) (X Y Z : Int) (a : Option Addr) (n cap : Nat) (D : Int) (a0 : Option Addr) (c0 : Nat) (a1 : Option Addr) (c1 : Nat) (nx ny nz : Nat) (v : Value) : List BoxT :=
  [(O, [.int .i64 (nx : Int), .int .i64 (ny : Int), .int .i64 (nz : Int), v]), (B + 2, [.int .i64 0, .int .i64 0, .int .i64 0, .slice none 0 0]), (B + 1, [.slice a0 9 c0, .slice a1 3 c1, .int .i64 D]), (B, [.int .i64 X, .int .i64 Y, .int .i64 Z, .slice a n cap])]


set_option maxRecDepth 100000 in
set_option maxHeartbeats 16000000 in
theorem sreslice_go (X Y Z : Int) (a : Option Addr) (n cap : Nat) (t : Nat → Int) (hX : 1 ≤ X ∧ X ≤ 32) (hY : 1 ≤ Y ∧ Y ≤ 32) (hZ : 1 ≤ Z ∧ Z ≤ 32) (hn : (n : Int) = X * Y * Z) (hv : volB X Y Z n t = true) (hl : n ≤ 1048576) (D : Int) (a0 : Option Addr) (c0 : Nat) (M : Nat → Int) (a1 : Option Addr) (c1 : Nat) (T : Nat → Int)
    (hf : frmB D 9 M 3 T = true) (bD : 1 ≤ D ∧ D ≤ 1000000) (bM : ∀ k, k < 9 → -1000000 ≤ M k ∧ M k ≤ 1000000) (bT : ∀ k, k < 3 → -1000000 ≤ T k ∧ T k ≤ 1000000) (nx ny nz : Nat) (hnx : 1 ≤ nx ∧ nx ≤ 32) (hny : 1 ≤ ny ∧ ny ≤ 32) (hnz : 1 ≤ nz ∧ nz ≤ 32) (w : World) (h : Px a n t w) (h0 : Px a0 9 M w) (h1 : Px a1 3 T w) :
    Calls Try.prog 7 #[vVolume X Y Z a n cap, vFrame D a0 9 c0 a1 3 c1, .int .i64 (nx : Int), .int .i64 (ny : Int), .int .i64 (nz : Int)] w (VoR (nx : Int) (ny : Int) (nz : Int) (nz * ny * nx) (rsF t X Y Z M T D nx ny) w) := by
  have HS0 := hide ((((St.start w).box [.int .i64 X, .int .i64 Y, .int .i64 Z, .slice a n cap] 29).box' [.slice a0 9 c0, .slice a1 3 c1, .int .i64 D] 32 (b := w.heap.size + 1) (by simp)).box' [.int .i64 0, .int .i64 0, .int .i64 0, .slice none 0 0] 29 (b := w.heap.size + 2) (by simp))
  have cV := specVolumeOk_any X Y Z a n cap t hl _ (h.below HS0.out.below)
  rw [hv] at cV
  have cF := fun w' k0 k1 => specFrameOk_any D a0 9 c0 M (by omega) a1 3 c1 T (by omega) w' k0 k1
  rw [hf] at cF
  have cx := fun w' => l1In_any (nx : Int) 1 32 w'
  rw [show inB (nx : Int) 1 32 = true by unfold inB; simp; omega] at cx
  have cy := fun w' => l1In_any (ny : Int) 1 32 w'
  rw [show inB (ny : Int) 1 32 = true by unfold inB; simp; omega] at cy
  have cz := fun w' => l1In_any (nz : Int) 1 32 w'
  rw [show inB (nz : Int) 1 32 = true by unfold inB; simp; omega] at cz
  have cM := fun (x y z : Nat) w' k0 k1 => specMove_any D a0 9 c0 M (by omega) a1 3 c1 T (by omega) (x : Int) (y : Int) (z : Int) w' k0 k1
  have HMV : Hid (∀ x y z : Nat, x < 32 → y < 32 → z < 32 → movV D 9 M 3 T (x : Int) (y : Int) (z : Int) = plV (mvX M T x y z 0) (mvX M T x y z 1) (mvX M T x y z 2) D (mvG M T D x y z)) := fun x y z hx hy hz => by
    unfold movV movB
    rw [hf, if_pos (by unfold inB; simp; omega)]
  have cN := fun (d : Nat) (h1 : 1 ≤ d) (h2 : d ≤ 1000000) (s : Int) hs w' => l7Near_any s d h1 h2 hs w'
  have cT := fun x y z w' h => l7At_any X Y Z a n cap t hX hY hZ hn x y z w' h
  have HP := hide h
  have HP0 := hide h0
  have HP1 := hide h1
  have HCM := hide cM
  have HCN := hide cN
  have HCT := hide cT
  have HBD := hide bD
  have HBM := hide bM
  have HBT := hide bT
  clear h h0 h1 hf hv hX hY hZ hn bD bM bT hl cM cN cT
  obtain ⟨i0, i1, i2, i3⟩ := HS0.out.im4 2 rfl
  go_enter Try.func7, Try.ntmps7
  go_wp2_with fail
  refine cV.mono ?_
  rintro e w1 ⟨rfl, hb⟩
  have HS1 := hide (HS0.out.next hb)
  clear cV hb HS0 i0 i1 i2 i3
  obtain ⟨i0, i1, i2⟩ := HS1.out.im3 1 rfl
  go_wp2_with fail
  refine (cF _ (HP0.out.below HS1.out.below) (HP1.out.below HS1.out.below)).mono ?_
  rintro e w2 ⟨rfl, hb⟩
  have HS3 := hide (HS1.out.next hb)
  clear cF hb HS1 i0 i1 i2
  go_wp2_with fail
  refine (cx _).mono ?_
  rintro e w3 ⟨rfl, rfl⟩
  clear cx
  go_wp2_with fail
  refine (cy _).mono ?_
  rintro e w3' ⟨rfl, rfl⟩
  clear cy
  go_wp2_with fail
  refine (cz _).mono ?_
  rintro e w3 ⟨rfl, rfl⟩
  clear cz
  have HS4 := hide (HS3.out.box [.int .i64 (nx : Int), .int .i64 (ny : Int), .int .i64 (nz : Int), .slice none 0 0] 29)
  have hsz : (w3.alloc (.cells [.int .i64 (nx : Int), .int .i64 (ny : Int), .int .i64 (nz : Int), .slice none 0 0].toArray 29)).heap.size = w3.heap.size + 1 := by simp
  have HBW : Hid (w.heap.size ≤ w3.heap.size) := HS3.out.below.size
  go_wp2_with fail
  generalize w3.alloc (.cells [.int .i64 (nx : Int), .int .i64 (ny : Int), .int .i64 (nz : Int), .slice none 0 0].toArray 29) = w4 at *
  generalize w3.heap.size = O at *
  have HST0 : Hid (St w (rtL w.heap.size O X Y Z a n cap D a0 c0 a1 c1 nx ny nz (.slice none 0 0)) [] w4) := HS4
  have HBL : Hid (∀ v, ∀ b ∈ blocks (rtL w.heap.size O X Y Z a n cap D a0 c0 a1 c1 nx ny nz v) [], b < O + 1) := fun v b hb => by
    have := (HST0.out.lt b hb).2
    omega
  have HSZ : Hid (O + 1 ≤ w4.heap.size) := by show _ ≤ _; omega
  clear HS3 HS4 hsz
  go_loopw [12, 84] (fun i g wr => ∃ (z : Nat) (L : List Int) (af : Option Addr) (cf : Nat), z ≤ nz ∧ i = .int .i64 z ∧ L = fl (rsF t X Y Z M T D nx ny) (z * ny * nx) ∧ wr.ownsRow (O + 1) 2 1 (.slice af L.length cf) L.length (ints L) ∧ O + 1 ≤ wr.heap.size ∧ St w (rtL w.heap.size O X Y Z a n cap D a0 c0 a1 c1 nx ny nz (.slice af L.length cf)) [] wr ∧ ¬ Grw L g) (fun i _ _ => nz - (intOf i).toNat)
  case atStart => exact ⟨0, [], none, 0, Nat.zero_le _, rfl, by rw [Nat.zero_mul, Nat.zero_mul]; rfl, World.ownsRow_nil _ _ _ _, HSZ.out, HST0.out, fun ⟨_, _, h⟩ => by simp [undef] at h⟩
  case round =>
    obtain ⟨z, L, af, cf, hz, rfl, hLf, ho, hB, hst, hg⟩ := hrel
    obtain ⟨wz, hwz⟩ : ∃ wz, wz = wr := ⟨_, rfl⟩
    subst hwz
    clear HSZ HST0
    have HLf := hide hLf
    have HO := hide ho
    have HB := hide hB
    have HST := hide hst
    have HG := hide hg
    clear hLf ho hB hst hg
    by_cases hlz : z < nz
    · go_wp2_with fail
      go_loopw [13, 84] (fun i g wr => ∃ (y : Nat) (L : List Int) (af : Option Addr) (cf : Nat), y ≤ ny ∧ i = .int .i64 y ∧ L = fl (rsF t X Y Z M T D nx ny) ((z * ny + y) * nx) ∧ wr.ownsRow (O + 1) 2 1 (.slice af L.length cf) L.length (ints L) ∧ O + 1 ≤ wr.heap.size ∧ St w (rtL w.heap.size O X Y Z a n cap D a0 c0 a1 c1 nx ny nz (.slice af L.length cf)) [] wr ∧ ¬ Grw L g) (fun i _ _ => ny - (intOf i).toNat)
      case atStart => exact ⟨0, L, af, cf, Nat.zero_le _, rfl, by rw [Nat.add_zero]; exact HLf.out, HO.out, HB.out, HST.out, HG.out⟩
      case round =>
        obtain ⟨y, L, af, cf, hy, rfl, hLf, ho, hB, hst, hg⟩ := hrel
        obtain ⟨wy, hwy⟩ : ∃ wy, wy = wr := ⟨_, rfl⟩
        subst hwy
        clear HLf HO HB HST HG
        have HLf := hide hLf
        have HO := hide ho
        have HB := hide hB
        have HST := hide hst
        have HG := hide hg
        clear hLf ho hB hst hg
        by_cases hly : y < ny
        · go_wp2_with fail
          go_loopw [14, 84] (fun i g wr => ∃ (x : Nat) (L : List Int) (af : Option Addr) (cf : Nat), x ≤ nx ∧ i = .int .i64 x ∧ L = fl (rsF t X Y Z M T D nx ny) ((z * ny + y) * nx + x) ∧ wr.ownsRow (O + 1) 2 1 (.slice af L.length cf) L.length (ints L) ∧ O + 1 ≤ wr.heap.size ∧ St w (rtL w.heap.size O X Y Z a n cap D a0 c0 a1 c1 nx ny nz (.slice af L.length cf)) [] wr ∧ ¬ Grw L g) (fun i _ _ => nx - (intOf i).toNat)
          case atStart => exact ⟨0, L, af, cf, Nat.zero_le _, rfl, HLf.out, HO.out, HB.out, HST.out, HG.out⟩
          case round =>
            obtain ⟨x, L, af, cf, hx, rfl, hLf, ho, hB, hst, hg⟩ := hrel
            obtain ⟨wx, hwx⟩ : ∃ wx, wx = wr := ⟨_, rfl⟩
            subst hwx
            clear HLf HO HB HST HG
            have HLf := hide hLf
            have HO := hide ho
            have HB := hide hB
            have HST := hide hst
            have HG := hide hg
            clear hLf ho hB hst hg
            by_cases hlx : x < nx
            · skip
              have HF := hide (rsF_at t X Y Z M T D (z := z) hlx hly)
              have cM := HCM.out x y z
              rw [HMV.out x y z (by omega) (by omega) (by omega)] at cM
              obtain ⟨d, hd, hd1, hd2⟩ := dq_b HBD.out.1 HBD.out.2 (mvG_dvd M T D x y z)
              have b0 := mvX_b HBM.out HBT.out (show x < 32 by omega) (show y < 32 by omega) (show z < 32 by omega) (show 0 < 3 by omega)
              have b1 := mvX_b HBM.out HBT.out (show x < 32 by omega) (show y < 32 by omega) (show z < 32 by omega) (show 1 < 3 by omega)
              have b2 := mvX_b HBM.out HBT.out (show x < 32 by omega) (show y < 32 by omega) (show z < 32 by omega) (show 2 < 3 by omega)
              have k0 := Int.natAbs_tdiv_le_natAbs (mvX M T x y z 0) (mvG M T D x y z : Nat)
              have k1 := Int.natAbs_tdiv_le_natAbs (mvX M T x y z 1) (mvG M T D x y z : Nat)
              have k2 := Int.natAbs_tdiv_le_natAbs (mvX M T x y z 2) (mvG M T D x y z : Nat)
              unfold plV at cM
              rw [hd] at cM
              have hzz : rsN t X Y Z M T D (x : Int) (y : Int) (z : Int) = vxN t X Y Z ((mvX M T x y z 0).tdiv (mvG M T D x y z)) ((mvX M T x y z 1).tdiv (mvG M T D x y z)) ((mvX M T x y z 2).tdiv (mvG M T D x y z)) (d : Int) := by unfold rsN; rw [hd]
              rw [hzz] at HF
              clear hzz hd
              generalize (mvX M T x y z 0).tdiv (mvG M T D x y z) = p0 at *
              generalize (mvX M T x y z 1).tdiv (mvG M T D x y z) = p1 at *
              generalize (mvX M T x y z 2).tdiv (mvG M T D x y z) = p2 at *
              have cX := HCN.out d hd1 hd2 p0 (by omega)
              have cY := HCN.out d hd1 hd2 p1 (by omega)
              have cZ := HCN.out d hd1 hd2 p2 (by omega)
              have cA := HCT.out (nrS p0 d) (nrS p1 d) (nrS p2 d)
              rw [show vxV t X Y Z (nrS p0 d) (nrS p1 d) (nrS p2 d) = vxN t X Y Z p0 p1 p2 (d : Int) from rfl] at cA
              generalize vxN t X Y Z p0 p1 p2 (d : Int) = zv at *
              generalize nrS p0 (d : Int) = NX at *
              generalize nrS p1 (d : Int) = NY at *
              generalize nrS p2 (d : Int) = NZ at *
              have HCX := hide cX
              have HCY := hide cY
              have HCZ := hide cZ
              have HCA := hide cA
              have HLL : Hid (L.length ≤ 40000) := by
                have h1 := lt3 hlx hly hlz
                have h2 : nx * ny * nz ≤ 32 * 32 * 32 := Nat.mul_le_mul (Nat.mul_le_mul (by omega) (by omega)) (by omega)
                have h3 := HLf.out
                show _ ≤ _
                rw [h3, fl_len]
                omega
              clear cX cY cZ cA b0 b1 b2 k0 k1 k2
              obtain ⟨i0, i1, i2⟩ := HST.out.im3 2 rfl
              go_wp2_with fail
              refine (cM _ (HP0.out.below HST.out.below) (HP1.out.below HST.out.below)).mono ?_
              rintro e w5 ⟨rfl, hb⟩
              have HS5 := hide (HST.out.next hb)
              have HO5 := hide (own_nextG HO.out hb)
              have HB5 : Hid (O + 1 ≤ w5.heap.size) := Nat.le_trans HB.out hb.size
              clear cM hb HST HO HB i0 i1 i2
              have HS6 := hide (HS5.out.box [.int .i64 p0, .int .i64 p1, .int .i64 p2, .int .i64 (d : Int)] 50)
              have HO6 := hide (own_nextG HO5.out (bnew w5 (.cells [.int .i64 p0, .int .i64 p1, .int .i64 p2, .int .i64 (d : Int)].toArray 50)))
              have HB6 : Hid (O + 1 ≤ (w5.alloc (.cells [.int .i64 p0, .int .i64 p1, .int .i64 p2, .int .i64 (d : Int)].toArray 50)).heap.size) := by have := HB5.out; show _ ≤ _; simp; omega
              clear HS5 HO5 HB5
              obtain ⟨ti, hi1, hi2, hi3, hi4⟩ := info2
              have HI1 := hide hi1
              clear hi1
              go_upto_region 14 with fail
              generalize hw6 : w5.alloc (.cells [.int .i64 p0, .int .i64 p1, .int .i64 p2, .int .i64 (d : Int)].toArray 50) = w6 at HS6 HO6 HB6
              have hw6' : w5.alloc (.cells #[.int .i64 p0, .int .i64 p1, .int .i64 p2, .int .i64 (d : Int)] 50) = w6 := hw6
              try rw [hw6']
              clear hw6 hw6'
              generalize w5.heap.size = P at *
              have HST := hide (HS6.out.sub (List.sublist_cons_self ..) (List.Sublist.refl _))
              obtain ⟨G, hG⟩ : ∃ G : Nat → Value → Prop, G = (fun j v => match j with | 0 => v = .pointer (some ⟨O, 3, none⟩) | 1 => v = .slice af L.length cf | 2 => v = vVolume X Y Z a n cap | 3 => v = .pointer (some ⟨P, 0, none⟩) | 4 => v = .int .i64 p0 | 5 => v = .pointer (some ⟨P, 3, none⟩) | 6 => v = .int .i64 (d : Int) | 7 => v = .int .i64 NX | 8 => v = .pointer (some ⟨P, 1, none⟩) | 9 => v = .int .i64 p1 | 10 => v = .pointer (some ⟨P, 3, none⟩) | 11 => v = .int .i64 (d : Int) | 12 => v = .int .i64 NY | 13 => v = .pointer (some ⟨P, 2, none⟩) | 14 => v = .int .i64 p2 | 15 => v = .pointer (some ⟨P, 3, none⟩) | 16 => v = .int .i64 (d : Int) | 17 => v = .int .i64 NZ | 18 => v = .int .i64 zv | 21 => v = .pointer (some ⟨O, 3, none⟩) | _ => True) := ⟨_, rfl⟩
              have G0 : Hid (∀ v, G 0 v ↔ v = .pointer (some ⟨O, 3, none⟩)) := fun v => by rw [hG]; exact Iff.rfl
              have G1 : Hid (∀ v, G 1 v ↔ v = .slice af L.length cf) := fun v => by rw [hG]; exact Iff.rfl
              have G2 : Hid (∀ v, G 2 v ↔ v = vVolume X Y Z a n cap) := fun v => by rw [hG]; exact Iff.rfl
              have G3 : Hid (∀ v, G 3 v ↔ v = .pointer (some ⟨P, 0, none⟩)) := fun v => by rw [hG]; exact Iff.rfl
              have G4 : Hid (∀ v, G 4 v ↔ v = .int .i64 p0) := fun v => by rw [hG]; exact Iff.rfl
              have G5 : Hid (∀ v, G 5 v ↔ v = .pointer (some ⟨P, 3, none⟩)) := fun v => by rw [hG]; exact Iff.rfl
              have G6 : Hid (∀ v, G 6 v ↔ v = .int .i64 (d : Int)) := fun v => by rw [hG]; exact Iff.rfl
              have G7 : Hid (∀ v, G 7 v ↔ v = .int .i64 NX) := fun v => by rw [hG]; exact Iff.rfl
              have G8 : Hid (∀ v, G 8 v ↔ v = .pointer (some ⟨P, 1, none⟩)) := fun v => by rw [hG]; exact Iff.rfl
              have G9 : Hid (∀ v, G 9 v ↔ v = .int .i64 p1) := fun v => by rw [hG]; exact Iff.rfl
              have G10 : Hid (∀ v, G 10 v ↔ v = .pointer (some ⟨P, 3, none⟩)) := fun v => by rw [hG]; exact Iff.rfl
              have G11 : Hid (∀ v, G 11 v ↔ v = .int .i64 (d : Int)) := fun v => by rw [hG]; exact Iff.rfl
              have G12 : Hid (∀ v, G 12 v ↔ v = .int .i64 NY) := fun v => by rw [hG]; exact Iff.rfl
              have G13 : Hid (∀ v, G 13 v ↔ v = .pointer (some ⟨P, 2, none⟩)) := fun v => by rw [hG]; exact Iff.rfl
              have G14 : Hid (∀ v, G 14 v ↔ v = .int .i64 p2) := fun v => by rw [hG]; exact Iff.rfl
              have G15 : Hid (∀ v, G 15 v ↔ v = .pointer (some ⟨P, 3, none⟩)) := fun v => by rw [hG]; exact Iff.rfl
              have G16 : Hid (∀ v, G 16 v ↔ v = .int .i64 (d : Int)) := fun v => by rw [hG]; exact Iff.rfl
              have G17 : Hid (∀ v, G 17 v ↔ v = .int .i64 NZ) := fun v => by rw [hG]; exact Iff.rfl
              have G18 : Hid (∀ v, G 18 v ↔ v = .int .i64 zv) := fun v => by rw [hG]; exact Iff.rfl
              have G19 : Hid (∀ v, G 19 v) := fun v => by rw [hG]; trivial
              have G20 : Hid (∀ v, G 20 v) := fun v => by rw [hG]; trivial
              have G21 : Hid (∀ v, G 21 v ↔ v = .pointer (some ⟨O, 3, none⟩)) := fun v => by rw [hG]; exact Iff.rfl
              have G22 : Hid (∀ v, G 22 v) := fun v => by rw [hG]; trivial
              clear hG
              refine region_opsV (fun u w' => gR 20 22 (O + 1) w6 L af cf u w' ∧ pR 20 22 w6 L u w') (gF 19 20 22 (O + 1) w6 L O 3 zv G) (by kernel_rfl) (by kernel_rfl) (by kernel_rfl) (by kernel_rfl) ?_ ?_ ?_
              · exact ⟨fun _ => ⟨(Below.refl _ _).drew, .inl HO6.out⟩, fun _ => .inl (Below.refl _ _).drew⟩
              · refine ⟨?_, ?_, ?_, ?_, ?_, ?_, ?_, ?_, ?_, ?_, ?_, ?_, ?_, ?_, ?_, ?_, ?_, ?_, ?_, ?_, ?_, ?_, ?_, trivial⟩
                · intro u w21 au hsl hel hu hF hp' K hK
                  have hS : u 22 = undef := (hu.out 22 (by decide) (.inr (by kernel_rfl))).trans (by kernel_rfl)
                  have hB := (hF.1 hS).1
                  have hZ : O + 1 ≤ w21.heap.size := Nat.le_trans HB6.out hB.size
                  have t11 : au.tmps[11]?.getD undef = .pointer (some ⟨O, 0, none⟩) := (hel.out 11 (by kernel_rfl)).trans (by kernel_rfl)
                  refine step_plain rfl ?_
                  go_simp
                  exact hK.out (.pointer (some ⟨O, 3, none⟩)) _ ⟨gR_up hZ hF.1 (Below.refl _ _) 0 (by omega) (by omega) _, pR_up hF.2 (Below.refl _ _) 0 (by omega) (by omega) _⟩ ⟨by rw [upU_same]; exact (G0.out _).2 rfl, fun e => by omega, fun e => by omega, fun e => by omega⟩ (fun j hj hf h => gF_up (Below.refl _ _) 0 (by omega) (by omega) _ j hj (fun e => by subst e; exact absurd (Eq.trans (Eq.symm (by kernel_rfl)) hf) Bool.false_ne_true) h)
                · intro u w21 au hsl hel hu hF hp' K hK
                  have hS : u 22 = undef := (hu.out 22 (by decide) (.inr (by kernel_rfl))).trans (by kernel_rfl)
                  have hB := (hF.1 hS).1
                  have hZ : O + 1 ≤ w21.heap.size := Nat.le_trans HB6.out hB.size
                  have h0 : u 0 = .pointer (some ⟨O, 3, none⟩) := (G0.out _).1 (PreF.get hp' 0 (by kernel_rfl)).1
                  have t64 : au.tmps[64]?.getD undef = u 0 := hsl.out 0 64 (by kernel_rfl)
                  rw [h0] at t64
                  have hg9 : ¬ Grw L (u 20) := by rw [hu.out 20 (by decide) (.inr (by kernel_rfl))]; exact HG.out
                  have HS21 := hide (HS6.out.next ((hF.2 hS).resolve_right hg9))
                  clear hg9
                  have xc := HS21.out.cell 1 rfl 3 rfl
                  clear HS21
                  refine step_plain rfl ?_
                  go_simp
                  exact hK.out (.slice af L.length cf) _ ⟨gR_up hZ hF.1 (Below.refl _ _) 1 (by omega) (by omega) _, pR_up hF.2 (Below.refl _ _) 1 (by omega) (by omega) _⟩ ⟨by rw [upU_same]; exact (G1.out _).2 rfl, fun e => by omega, fun e => by omega, fun e => by omega⟩ (fun j hj hf h => gF_up (Below.refl _ _) 1 (by omega) (by omega) _ j hj (fun e => by subst e; exact absurd (Eq.trans (Eq.symm (by kernel_rfl)) hf) Bool.false_ne_true) h)
                · intro u w21 au hsl hel hu hF hp' K hK
                  have hS : u 22 = undef := (hu.out 22 (by decide) (.inr (by kernel_rfl))).trans (by kernel_rfl)
                  have hB := (hF.1 hS).1
                  have hZ : O + 1 ≤ w21.heap.size := Nat.le_trans HB6.out hB.size
                  have t5 : au.tmps[5]?.getD undef = .pointer (some ⟨w.heap.size, 0, none⟩) := (hel.out 5 (by kernel_rfl)).trans (by kernel_rfl)
                  have hg9 : ¬ Grw L (u 20) := by rw [hu.out 20 (by decide) (.inr (by kernel_rfl))]; exact HG.out
                  have HS21 := hide (HS6.out.next ((hF.2 hS).resolve_right hg9))
                  clear hg9
                  obtain ⟨x0, x1, x2, x3⟩ := HS21.out.im4 4 rfl
                  clear HS21
                  refine step_plain rfl ?_
                  go_simp
                  exact hK.out (vVolume X Y Z a n cap) _ ⟨gR_up hZ hF.1 (Below.refl _ _) 2 (by omega) (by omega) _, pR_up hF.2 (Below.refl _ _) 2 (by omega) (by omega) _⟩ ⟨by rw [upU_same]; exact (G2.out _).2 rfl, fun e => by omega, fun e => by omega, fun e => by omega⟩ (fun j hj hf h => gF_up (Below.refl _ _) 2 (by omega) (by omega) _ j hj (fun e => by subst e; exact absurd (Eq.trans (Eq.symm (by kernel_rfl)) hf) Bool.false_ne_true) h)
                · intro u w21 au hsl hel hu hF hp' K hK
                  have hS : u 22 = undef := (hu.out 22 (by decide) (.inr (by kernel_rfl))).trans (by kernel_rfl)
                  have hB := (hF.1 hS).1
                  have hZ : O + 1 ≤ w21.heap.size := Nat.le_trans HB6.out hB.size
                  have t15 : au.tmps[15]?.getD undef = .pointer (some ⟨P, 0, none⟩) := (hel.out 15 (by kernel_rfl)).trans (by kernel_rfl)
                  refine step_plain rfl ?_
                  go_simp
                  exact hK.out (.pointer (some ⟨P, 0, none⟩)) _ ⟨gR_up hZ hF.1 (Below.refl _ _) 3 (by omega) (by omega) _, pR_up hF.2 (Below.refl _ _) 3 (by omega) (by omega) _⟩ ⟨by rw [upU_same]; exact (G3.out _).2 rfl, fun e => by omega, fun e => by omega, fun e => by omega⟩ (fun j hj hf h => gF_up (Below.refl _ _) 3 (by omega) (by omega) _ j hj (fun e => by subst e; exact absurd (Eq.trans (Eq.symm (by kernel_rfl)) hf) Bool.false_ne_true) h)
                · intro u w21 au hsl hel hu hF hp' K hK
                  have hS : u 22 = undef := (hu.out 22 (by decide) (.inr (by kernel_rfl))).trans (by kernel_rfl)
                  have hB := (hF.1 hS).1
                  have hZ : O + 1 ≤ w21.heap.size := Nat.le_trans HB6.out hB.size
                  have h3 : u 3 = .pointer (some ⟨P, 0, none⟩) := (G3.out _).1 (PreF.get hp' 3 (by kernel_rfl)).1
                  have t67 : au.tmps[67]?.getD undef = u 3 := hsl.out 3 67 (by kernel_rfl)
                  rw [h3] at t67
                  have hg9 : ¬ Grw L (u 20) := by rw [hu.out 20 (by decide) (.inr (by kernel_rfl))]; exact HG.out
                  have HS21 := hide (HS6.out.next ((hF.2 hS).resolve_right hg9))
                  clear hg9
                  have xc := HS21.out.cell 0 rfl 0 rfl
                  clear HS21
                  refine step_plain rfl ?_
                  go_simp
                  exact hK.out (.int .i64 p0) _ ⟨gR_up hZ hF.1 (Below.refl _ _) 4 (by omega) (by omega) _, pR_up hF.2 (Below.refl _ _) 4 (by omega) (by omega) _⟩ ⟨by rw [upU_same]; exact (G4.out _).2 rfl, fun e => by omega, fun e => by omega, fun e => by omega⟩ (fun j hj hf h => gF_up (Below.refl _ _) 4 (by omega) (by omega) _ j hj (fun e => by subst e; exact absurd (Eq.trans (Eq.symm (by kernel_rfl)) hf) Bool.false_ne_true) h)
                · intro u w21 au hsl hel hu hF hp' K hK
                  have hS : u 22 = undef := (hu.out 22 (by decide) (.inr (by kernel_rfl))).trans (by kernel_rfl)
                  have hB := (hF.1 hS).1
                  have hZ : O + 1 ≤ w21.heap.size := Nat.le_trans HB6.out hB.size
                  have t15 : au.tmps[15]?.getD undef = .pointer (some ⟨P, 0, none⟩) := (hel.out 15 (by kernel_rfl)).trans (by kernel_rfl)
                  refine step_plain rfl ?_
                  go_simp
                  exact hK.out (.pointer (some ⟨P, 3, none⟩)) _ ⟨gR_up hZ hF.1 (Below.refl _ _) 5 (by omega) (by omega) _, pR_up hF.2 (Below.refl _ _) 5 (by omega) (by omega) _⟩ ⟨by rw [upU_same]; exact (G5.out _).2 rfl, fun e => by omega, fun e => by omega, fun e => by omega⟩ (fun j hj hf h => gF_up (Below.refl _ _) 5 (by omega) (by omega) _ j hj (fun e => by subst e; exact absurd (Eq.trans (Eq.symm (by kernel_rfl)) hf) Bool.false_ne_true) h)
                · intro u w21 au hsl hel hu hF hp' K hK
                  have hS : u 22 = undef := (hu.out 22 (by decide) (.inr (by kernel_rfl))).trans (by kernel_rfl)
                  have hB := (hF.1 hS).1
                  have hZ : O + 1 ≤ w21.heap.size := Nat.le_trans HB6.out hB.size
                  have h5 : u 5 = .pointer (some ⟨P, 3, none⟩) := (G5.out _).1 (PreF.get hp' 5 (by kernel_rfl)).1
                  have t69 : au.tmps[69]?.getD undef = u 5 := hsl.out 5 69 (by kernel_rfl)
                  rw [h5] at t69
                  have hg9 : ¬ Grw L (u 20) := by rw [hu.out 20 (by decide) (.inr (by kernel_rfl))]; exact HG.out
                  have HS21 := hide (HS6.out.next ((hF.2 hS).resolve_right hg9))
                  clear hg9
                  have xc := HS21.out.cell 0 rfl 3 rfl
                  clear HS21
                  refine step_plain rfl ?_
                  go_simp
                  exact hK.out (.int .i64 (d : Int)) _ ⟨gR_up hZ hF.1 (Below.refl _ _) 6 (by omega) (by omega) _, pR_up hF.2 (Below.refl _ _) 6 (by omega) (by omega) _⟩ ⟨by rw [upU_same]; exact (G6.out _).2 rfl, fun e => by omega, fun e => by omega, fun e => by omega⟩ (fun j hj hf h => gF_up (Below.refl _ _) 6 (by omega) (by omega) _ j hj (fun e => by subst e; exact absurd (Eq.trans (Eq.symm (by kernel_rfl)) hf) Bool.false_ne_true) h)
                · intro u w21 au hsl hel hu hF hp' K hK
                  have hS : u 22 = undef := (hu.out 22 (by decide) (.inr (by kernel_rfl))).trans (by kernel_rfl)
                  have hB := (hF.1 hS).1
                  have hZ : O + 1 ≤ w21.heap.size := Nat.le_trans HB6.out hB.size
                  have h4 : u 4 = .int .i64 p0 := (G4.out _).1 (PreF.get hp' 4 (by kernel_rfl)).1
                  have t68 : au.tmps[68]?.getD undef = u 4 := hsl.out 4 68 (by kernel_rfl)
                  rw [h4] at t68
                  have h6 : u 6 = .int .i64 (d : Int) := (G6.out _).1 (PreF.get hp' 6 (by kernel_rfl)).1
                  have t70 : au.tmps[70]?.getD undef = u 6 := hsl.out 6 70 (by kernel_rfl)
                  rw [h6] at t70
                  refine step_plain rfl ?_
                  go_simp
                  refine (HCX.out w21).mono ?_
                  rintro e w22 ⟨rfl, rfl⟩
                  exact hK.out (.int .i64 NX) _ ⟨gR_up hZ hF.1 (Below.refl _ _) 7 (by omega) (by omega) _, pR_up hF.2 (Below.refl _ _) 7 (by omega) (by omega) _⟩ ⟨by rw [upU_same]; exact (G7.out _).2 rfl, fun e => by omega, fun e => by omega, fun e => by omega⟩ (fun j hj hf h => gF_up (Below.refl _ _) 7 (by omega) (by omega) _ j hj (fun e => by subst e; exact absurd (Eq.trans (Eq.symm (by kernel_rfl)) hf) Bool.false_ne_true) h)
                · intro u w21 au hsl hel hu hF hp' K hK
                  have hS : u 22 = undef := (hu.out 22 (by decide) (.inr (by kernel_rfl))).trans (by kernel_rfl)
                  have hB := (hF.1 hS).1
                  have hZ : O + 1 ≤ w21.heap.size := Nat.le_trans HB6.out hB.size
                  have t15 : au.tmps[15]?.getD undef = .pointer (some ⟨P, 0, none⟩) := (hel.out 15 (by kernel_rfl)).trans (by kernel_rfl)
                  refine step_plain rfl ?_
                  go_simp
                  exact hK.out (.pointer (some ⟨P, 1, none⟩)) _ ⟨gR_up hZ hF.1 (Below.refl _ _) 8 (by omega) (by omega) _, pR_up hF.2 (Below.refl _ _) 8 (by omega) (by omega) _⟩ ⟨by rw [upU_same]; exact (G8.out _).2 rfl, fun e => by omega, fun e => by omega, fun e => by omega⟩ (fun j hj hf h => gF_up (Below.refl _ _) 8 (by omega) (by omega) _ j hj (fun e => by subst e; exact absurd (Eq.trans (Eq.symm (by kernel_rfl)) hf) Bool.false_ne_true) h)
                · intro u w21 au hsl hel hu hF hp' K hK
                  have hS : u 22 = undef := (hu.out 22 (by decide) (.inr (by kernel_rfl))).trans (by kernel_rfl)
                  have hB := (hF.1 hS).1
                  have hZ : O + 1 ≤ w21.heap.size := Nat.le_trans HB6.out hB.size
                  have h8 : u 8 = .pointer (some ⟨P, 1, none⟩) := (G8.out _).1 (PreF.get hp' 8 (by kernel_rfl)).1
                  have t72 : au.tmps[72]?.getD undef = u 8 := hsl.out 8 72 (by kernel_rfl)
                  rw [h8] at t72
                  have hg9 : ¬ Grw L (u 20) := by rw [hu.out 20 (by decide) (.inr (by kernel_rfl))]; exact HG.out
                  have HS21 := hide (HS6.out.next ((hF.2 hS).resolve_right hg9))
                  clear hg9
                  have xc := HS21.out.cell 0 rfl 1 rfl
                  clear HS21
                  refine step_plain rfl ?_
                  go_simp
                  exact hK.out (.int .i64 p1) _ ⟨gR_up hZ hF.1 (Below.refl _ _) 9 (by omega) (by omega) _, pR_up hF.2 (Below.refl _ _) 9 (by omega) (by omega) _⟩ ⟨by rw [upU_same]; exact (G9.out _).2 rfl, fun e => by omega, fun e => by omega, fun e => by omega⟩ (fun j hj hf h => gF_up (Below.refl _ _) 9 (by omega) (by omega) _ j hj (fun e => by subst e; exact absurd (Eq.trans (Eq.symm (by kernel_rfl)) hf) Bool.false_ne_true) h)
                · intro u w21 au hsl hel hu hF hp' K hK
                  have hS : u 22 = undef := (hu.out 22 (by decide) (.inr (by kernel_rfl))).trans (by kernel_rfl)
                  have hB := (hF.1 hS).1
                  have hZ : O + 1 ≤ w21.heap.size := Nat.le_trans HB6.out hB.size
                  have t15 : au.tmps[15]?.getD undef = .pointer (some ⟨P, 0, none⟩) := (hel.out 15 (by kernel_rfl)).trans (by kernel_rfl)
                  refine step_plain rfl ?_
                  go_simp
                  exact hK.out (.pointer (some ⟨P, 3, none⟩)) _ ⟨gR_up hZ hF.1 (Below.refl _ _) 10 (by omega) (by omega) _, pR_up hF.2 (Below.refl _ _) 10 (by omega) (by omega) _⟩ ⟨by rw [upU_same]; exact (G10.out _).2 rfl, fun e => by omega, fun e => by omega, fun e => by omega⟩ (fun j hj hf h => gF_up (Below.refl _ _) 10 (by omega) (by omega) _ j hj (fun e => by subst e; exact absurd (Eq.trans (Eq.symm (by kernel_rfl)) hf) Bool.false_ne_true) h)
                · intro u w21 au hsl hel hu hF hp' K hK
                  have hS : u 22 = undef := (hu.out 22 (by decide) (.inr (by kernel_rfl))).trans (by kernel_rfl)
                  have hB := (hF.1 hS).1
                  have hZ : O + 1 ≤ w21.heap.size := Nat.le_trans HB6.out hB.size
                  have h10 : u 10 = .pointer (some ⟨P, 3, none⟩) := (G10.out _).1 (PreF.get hp' 10 (by kernel_rfl)).1
                  have t74 : au.tmps[74]?.getD undef = u 10 := hsl.out 10 74 (by kernel_rfl)
                  rw [h10] at t74
                  have hg9 : ¬ Grw L (u 20) := by rw [hu.out 20 (by decide) (.inr (by kernel_rfl))]; exact HG.out
                  have HS21 := hide (HS6.out.next ((hF.2 hS).resolve_right hg9))
                  clear hg9
                  have xc := HS21.out.cell 0 rfl 3 rfl
                  clear HS21
                  refine step_plain rfl ?_
                  go_simp
                  exact hK.out (.int .i64 (d : Int)) _ ⟨gR_up hZ hF.1 (Below.refl _ _) 11 (by omega) (by omega) _, pR_up hF.2 (Below.refl _ _) 11 (by omega) (by omega) _⟩ ⟨by rw [upU_same]; exact (G11.out _).2 rfl, fun e => by omega, fun e => by omega, fun e => by omega⟩ (fun j hj hf h => gF_up (Below.refl _ _) 11 (by omega) (by omega) _ j hj (fun e => by subst e; exact absurd (Eq.trans (Eq.symm (by kernel_rfl)) hf) Bool.false_ne_true) h)
                · intro u w21 au hsl hel hu hF hp' K hK
                  have hS : u 22 = undef := (hu.out 22 (by decide) (.inr (by kernel_rfl))).trans (by kernel_rfl)
                  have hB := (hF.1 hS).1
                  have hZ : O + 1 ≤ w21.heap.size := Nat.le_trans HB6.out hB.size
                  have h9 : u 9 = .int .i64 p1 := (G9.out _).1 (PreF.get hp' 9 (by kernel_rfl)).1
                  have t73 : au.tmps[73]?.getD undef = u 9 := hsl.out 9 73 (by kernel_rfl)
                  rw [h9] at t73
                  have h11 : u 11 = .int .i64 (d : Int) := (G11.out _).1 (PreF.get hp' 11 (by kernel_rfl)).1
                  have t75 : au.tmps[75]?.getD undef = u 11 := hsl.out 11 75 (by kernel_rfl)
                  rw [h11] at t75
                  refine step_plain rfl ?_
                  go_simp
                  refine (HCY.out w21).mono ?_
                  rintro e w22 ⟨rfl, rfl⟩
                  exact hK.out (.int .i64 NY) _ ⟨gR_up hZ hF.1 (Below.refl _ _) 12 (by omega) (by omega) _, pR_up hF.2 (Below.refl _ _) 12 (by omega) (by omega) _⟩ ⟨by rw [upU_same]; exact (G12.out _).2 rfl, fun e => by omega, fun e => by omega, fun e => by omega⟩ (fun j hj hf h => gF_up (Below.refl _ _) 12 (by omega) (by omega) _ j hj (fun e => by subst e; exact absurd (Eq.trans (Eq.symm (by kernel_rfl)) hf) Bool.false_ne_true) h)
                · intro u w21 au hsl hel hu hF hp' K hK
                  have hS : u 22 = undef := (hu.out 22 (by decide) (.inr (by kernel_rfl))).trans (by kernel_rfl)
                  have hB := (hF.1 hS).1
                  have hZ : O + 1 ≤ w21.heap.size := Nat.le_trans HB6.out hB.size
                  have t15 : au.tmps[15]?.getD undef = .pointer (some ⟨P, 0, none⟩) := (hel.out 15 (by kernel_rfl)).trans (by kernel_rfl)
                  refine step_plain rfl ?_
                  go_simp
                  exact hK.out (.pointer (some ⟨P, 2, none⟩)) _ ⟨gR_up hZ hF.1 (Below.refl _ _) 13 (by omega) (by omega) _, pR_up hF.2 (Below.refl _ _) 13 (by omega) (by omega) _⟩ ⟨by rw [upU_same]; exact (G13.out _).2 rfl, fun e => by omega, fun e => by omega, fun e => by omega⟩ (fun j hj hf h => gF_up (Below.refl _ _) 13 (by omega) (by omega) _ j hj (fun e => by subst e; exact absurd (Eq.trans (Eq.symm (by kernel_rfl)) hf) Bool.false_ne_true) h)
                · intro u w21 au hsl hel hu hF hp' K hK
                  have hS : u 22 = undef := (hu.out 22 (by decide) (.inr (by kernel_rfl))).trans (by kernel_rfl)
                  have hB := (hF.1 hS).1
                  have hZ : O + 1 ≤ w21.heap.size := Nat.le_trans HB6.out hB.size
                  have h13 : u 13 = .pointer (some ⟨P, 2, none⟩) := (G13.out _).1 (PreF.get hp' 13 (by kernel_rfl)).1
                  have t77 : au.tmps[77]?.getD undef = u 13 := hsl.out 13 77 (by kernel_rfl)
                  rw [h13] at t77
                  have hg9 : ¬ Grw L (u 20) := by rw [hu.out 20 (by decide) (.inr (by kernel_rfl))]; exact HG.out
                  have HS21 := hide (HS6.out.next ((hF.2 hS).resolve_right hg9))
                  clear hg9
                  have xc := HS21.out.cell 0 rfl 2 rfl
                  clear HS21
                  refine step_plain rfl ?_
                  go_simp
                  exact hK.out (.int .i64 p2) _ ⟨gR_up hZ hF.1 (Below.refl _ _) 14 (by omega) (by omega) _, pR_up hF.2 (Below.refl _ _) 14 (by omega) (by omega) _⟩ ⟨by rw [upU_same]; exact (G14.out _).2 rfl, fun e => by omega, fun e => by omega, fun e => by omega⟩ (fun j hj hf h => gF_up (Below.refl _ _) 14 (by omega) (by omega) _ j hj (fun e => by subst e; exact absurd (Eq.trans (Eq.symm (by kernel_rfl)) hf) Bool.false_ne_true) h)
                · intro u w21 au hsl hel hu hF hp' K hK
                  have hS : u 22 = undef := (hu.out 22 (by decide) (.inr (by kernel_rfl))).trans (by kernel_rfl)
                  have hB := (hF.1 hS).1
                  have hZ : O + 1 ≤ w21.heap.size := Nat.le_trans HB6.out hB.size
                  have t15 : au.tmps[15]?.getD undef = .pointer (some ⟨P, 0, none⟩) := (hel.out 15 (by kernel_rfl)).trans (by kernel_rfl)
                  refine step_plain rfl ?_
                  go_simp
                  exact hK.out (.pointer (some ⟨P, 3, none⟩)) _ ⟨gR_up hZ hF.1 (Below.refl _ _) 15 (by omega) (by omega) _, pR_up hF.2 (Below.refl _ _) 15 (by omega) (by omega) _⟩ ⟨by rw [upU_same]; exact (G15.out _).2 rfl, fun e => by omega, fun e => by omega, fun e => by omega⟩ (fun j hj hf h => gF_up (Below.refl _ _) 15 (by omega) (by omega) _ j hj (fun e => by subst e; exact absurd (Eq.trans (Eq.symm (by kernel_rfl)) hf) Bool.false_ne_true) h)
                · intro u w21 au hsl hel hu hF hp' K hK
                  have hS : u 22 = undef := (hu.out 22 (by decide) (.inr (by kernel_rfl))).trans (by kernel_rfl)
                  have hB := (hF.1 hS).1
                  have hZ : O + 1 ≤ w21.heap.size := Nat.le_trans HB6.out hB.size
                  have h15 : u 15 = .pointer (some ⟨P, 3, none⟩) := (G15.out _).1 (PreF.get hp' 15 (by kernel_rfl)).1
                  have t79 : au.tmps[79]?.getD undef = u 15 := hsl.out 15 79 (by kernel_rfl)
                  rw [h15] at t79
                  have hg9 : ¬ Grw L (u 20) := by rw [hu.out 20 (by decide) (.inr (by kernel_rfl))]; exact HG.out
                  have HS21 := hide (HS6.out.next ((hF.2 hS).resolve_right hg9))
                  clear hg9
                  have xc := HS21.out.cell 0 rfl 3 rfl
                  clear HS21
                  refine step_plain rfl ?_
                  go_simp
                  exact hK.out (.int .i64 (d : Int)) _ ⟨gR_up hZ hF.1 (Below.refl _ _) 16 (by omega) (by omega) _, pR_up hF.2 (Below.refl _ _) 16 (by omega) (by omega) _⟩ ⟨by rw [upU_same]; exact (G16.out _).2 rfl, fun e => by omega, fun e => by omega, fun e => by omega⟩ (fun j hj hf h => gF_up (Below.refl _ _) 16 (by omega) (by omega) _ j hj (fun e => by subst e; exact absurd (Eq.trans (Eq.symm (by kernel_rfl)) hf) Bool.false_ne_true) h)
                · intro u w21 au hsl hel hu hF hp' K hK
                  have hS : u 22 = undef := (hu.out 22 (by decide) (.inr (by kernel_rfl))).trans (by kernel_rfl)
                  have hB := (hF.1 hS).1
                  have hZ : O + 1 ≤ w21.heap.size := Nat.le_trans HB6.out hB.size
                  have h14 : u 14 = .int .i64 p2 := (G14.out _).1 (PreF.get hp' 14 (by kernel_rfl)).1
                  have t78 : au.tmps[78]?.getD undef = u 14 := hsl.out 14 78 (by kernel_rfl)
                  rw [h14] at t78
                  have h16 : u 16 = .int .i64 (d : Int) := (G16.out _).1 (PreF.get hp' 16 (by kernel_rfl)).1
                  have t80 : au.tmps[80]?.getD undef = u 16 := hsl.out 16 80 (by kernel_rfl)
                  rw [h16] at t80
                  refine step_plain rfl ?_
                  go_simp
                  refine (HCZ.out w21).mono ?_
                  rintro e w22 ⟨rfl, rfl⟩
                  exact hK.out (.int .i64 NZ) _ ⟨gR_up hZ hF.1 (Below.refl _ _) 17 (by omega) (by omega) _, pR_up hF.2 (Below.refl _ _) 17 (by omega) (by omega) _⟩ ⟨by rw [upU_same]; exact (G17.out _).2 rfl, fun e => by omega, fun e => by omega, fun e => by omega⟩ (fun j hj hf h => gF_up (Below.refl _ _) 17 (by omega) (by omega) _ j hj (fun e => by subst e; exact absurd (Eq.trans (Eq.symm (by kernel_rfl)) hf) Bool.false_ne_true) h)
                · intro u w21 au hsl hel hu hF hp' K hK
                  have hS : u 22 = undef := (hu.out 22 (by decide) (.inr (by kernel_rfl))).trans (by kernel_rfl)
                  have hB := (hF.1 hS).1
                  have hZ : O + 1 ≤ w21.heap.size := Nat.le_trans HB6.out hB.size
                  have h2 : u 2 = vVolume X Y Z a n cap := (G2.out _).1 (PreF.get hp' 2 (by kernel_rfl)).1
                  have t66 : au.tmps[66]?.getD undef = u 2 := hsl.out 2 66 (by kernel_rfl)
                  rw [h2] at t66
                  have h7 : u 7 = .int .i64 NX := (G7.out _).1 (PreF.get hp' 7 (by kernel_rfl)).1
                  have t71 : au.tmps[71]?.getD undef = u 7 := hsl.out 7 71 (by kernel_rfl)
                  rw [h7] at t71
                  have h12 : u 12 = .int .i64 NY := (G12.out _).1 (PreF.get hp' 12 (by kernel_rfl)).1
                  have t76 : au.tmps[76]?.getD undef = u 12 := hsl.out 12 76 (by kernel_rfl)
                  rw [h12] at t76
                  have h17 : u 17 = .int .i64 NZ := (G17.out _).1 (PreF.get hp' 17 (by kernel_rfl)).1
                  have t81 : au.tmps[81]?.getD undef = u 17 := hsl.out 17 81 (by kernel_rfl)
                  rw [h17] at t81
                  have hg9 : ¬ Grw L (u 20) := by rw [hu.out 20 (by decide) (.inr (by kernel_rfl))]; exact HG.out
                  have HS21 := hide (HS6.out.next ((hF.2 hS).resolve_right hg9))
                  clear hg9
                  have hPx := HP.out.below HS21.out.below
                  clear HS21
                  refine step_plain rfl ?_
                  go_simp
                  refine (HCA.out w21 hPx).mono ?_
                  rintro e w22 ⟨rfl, hb9⟩
                  exact hK.out (.int .i64 zv) _ ⟨gR_up hZ hF.1 hb9 18 (by omega) (by omega) _, pR_up hF.2 hb9 18 (by omega) (by omega) _⟩ ⟨by rw [upU_same]; exact (G18.out _).2 rfl, fun e => by omega, fun e => by omega, fun e => by omega⟩ (fun j hj hf h => gF_up hb9 18 (by omega) (by omega) _ j hj (fun e => by subst e; exact absurd (Eq.trans (Eq.symm (by kernel_rfl)) hf) Bool.false_ne_true) h)
                · intro u w21 au hsl hel hu hF hp' K hK
                  have hS : u 22 = undef := (hu.out 22 (by decide) (.inr (by kernel_rfl))).trans (by kernel_rfl)
                  have hB := (hF.1 hS).1
                  have hZ : O + 1 ≤ w21.heap.size := Nat.le_trans HB6.out hB.size
                  have h18 : u 18 = .int .i64 zv := (G18.out _).1 (PreF.get hp' 18 (by kernel_rfl)).1
                  have t82 : au.tmps[82]?.getD undef = u 18 := hsl.out 18 82 (by kernel_rfl)
                  rw [h18] at t82
                  refine step_plain rfl ?_
                  go_simp
                  have hb9 := bnew w21 (.cells #[.int .i64 zv] 2)
                  exact hK.out (.slice (some ⟨w21.heap.size, 0, none⟩) 1 1) _ ⟨gR_up hZ hF.1 hb9 19 (by omega) (by omega) _, pR_up hF.2 hb9 19 (by omega) (by omega) _⟩ ⟨G19.out _, fun _ => .inr (.inr ⟨w21.heap.size, upU_same _ _ _, hZ, heap_alloc_new w21 _⟩), fun e => by omega, fun e => by omega⟩ (fun j hj hf h => gF_up hb9 19 (by omega) (by omega) _ j hj (fun e => by subst e; exact absurd (Eq.trans (Eq.symm (by kernel_rfl)) hf) Bool.false_ne_true) h)
                · intro u w21 au hsl hel hu hF hp' K hK
                  have hS : u 22 = undef := (hu.out 22 (by decide) (.inr (by kernel_rfl))).trans (by kernel_rfl)
                  have hB := (hF.1 hS).1
                  have hZ : O + 1 ≤ w21.heap.size := Nat.le_trans HB6.out hB.size
                  have hg9 : ¬ Grw L (u 20) := by rw [hu.out 20 (by decide) (.inl rfl)]; exact HG.out
                  have hown := (hF.1 hS).2.resolve_right hg9
                  have h1 : u 1 = .slice af L.length cf := (G1.out _).1 (PreF.get hp' 1 (by kernel_rfl)).1
                  have t65 : au.tmps[65]?.getD undef = u 1 := hsl.out 1 65 (by kernel_rfl)
                  rw [h1] at t65
                  obtain ⟨b, h10, hBb, hnew⟩ := (((PreF.get hp' 19 (by kernel_rfl)).2.1 rfl).resolve_left (fun h => h hS)).resolve_left hg9
                  have t83 : au.tmps[83]?.getD undef = u 19 := hsl.out 19 83 (by kernel_rfl)
                  rw [h10] at t83
                  have HOWN := hide hown
                  have HNEW := hide hnew
                  have HBW9 := hide hB
                  clear hown hnew hB
                  refine step_append_lies _ (by rfl) _ _ _ (by rfl) (O + 1) 2 ti _ 1 8 Try.underlying22 HI1.out hi2 hi3 hi4 rfl (by omega) (.slice af L.length cf) L.length (ints L) (by rw [eval_tmp]; exact t65) HOWN.out ⟨b, 0, none⟩ 1 1 [.int .i64 zv] (by rw [eval_tmp]; exact t83) (by rfl) (World.news_of_block (cs := #[.int .i64 zv]) (t := 2) (fr := (0, 0)) HNEW.out) (by simp [Value.oneCell']) (by omega) (by have := HLL.out; unfold maxLen; omega) (by have := HLL.out; omega) hZ w21.heap.size rfl ?_
                  intro gg cap1 w22 hown1 hgrow hat hlt1
                  have hbg : Below (O + 1) w21 w22 := (Below.refl _ _).grown hgrow hZ (fun q' hq' => (HOWN.out.lt q' hq').1)
                  have hgv : Grw L (.slice (some ⟨gg, 0, none⟩) (L.length + 1) cap1) := ⟨_, _, rfl⟩
                  exact hK.out (.slice (some ⟨gg, 0, none⟩) (L.length + 1) cap1) _ ⟨fun _ => ⟨HBW9.out.trans hbg, .inr (by rw [upU_same]; exact hgv)⟩, fun _ => .inr (by rw [upU_same]; exact hgv)⟩ ⟨G20.out _, fun e => by omega, fun _ => .inr ⟨some ⟨gg, 0, none⟩, cap1, upU_same _ _ _, by rw [ints_append]; exact hown1⟩, fun e => by omega⟩ (fun j hj hf h => gF_gr hgv j hj (fun e => by subst e; exact absurd (Eq.trans (Eq.symm (by kernel_rfl)) hf) Bool.false_ne_true) h)
                · intro u w21 au hsl hel hu hF hp' K hK
                  have hS : u 22 = undef := (hu.out 22 (by decide) (.inr (by kernel_rfl))).trans (by kernel_rfl)
                  have hB := (hF.1 hS).1
                  have hZ : O + 1 ≤ w21.heap.size := Nat.le_trans HB6.out hB.size
                  have t11 : au.tmps[11]?.getD undef = .pointer (some ⟨O, 0, none⟩) := (hel.out 11 (by kernel_rfl)).trans (by kernel_rfl)
                  refine step_plain rfl ?_
                  go_simp
                  exact hK.out (.pointer (some ⟨O, 3, none⟩)) _ ⟨gR_up hZ hF.1 (Below.refl _ _) 21 (by omega) (by omega) _, pR_up hF.2 (Below.refl _ _) 21 (by omega) (by omega) _⟩ ⟨by rw [upU_same]; exact (G21.out _).2 rfl, fun e => by omega, fun e => by omega, fun e => by omega⟩ (fun j hj hf h => gF_up (Below.refl _ _) 21 (by omega) (by omega) _ j hj (fun e => by subst e; exact absurd (Eq.trans (Eq.symm (by kernel_rfl)) hf) Bool.false_ne_true) h)
                · intro u w21 au hsl hel hu hF hp' K hK
                  have hS : u 22 = undef := (hu.out 22 (by decide) (.inl rfl)).trans (by kernel_rfl)
                  have hB := (hF.1 hS).1
                  have hZ : O + 1 ≤ w21.heap.size := Nat.le_trans HB6.out hB.size
                  obtain ⟨a', c', h11, hown⟩ := ((PreF.get hp' 20 (by kernel_rfl)).2.2.1 rfl).resolve_left (fun h => h hS)
                  have t84 : au.tmps[84]?.getD undef = u 20 := hsl.out 20 84 (by kernel_rfl)
                  rw [h11] at t84
                  have h21 : u 21 = .pointer (some ⟨O, 3, none⟩) := (G21.out _).1 (PreF.get hp' 21 (by kernel_rfl)).1
                  have t85 : au.tmps[85]?.getD undef = u 21 := hsl.out 21 85 (by kernel_rfl)
                  rw [h21] at t85
                  have HS21 := hide (HST.out.nextB (HBL.out _) (Nat.le_succ_of_le HBW.out) hB)
                  have x3 := HS21.out.cell 0 rfl 3 rfl
                  have y3 := HS21.out.free 0 rfl 3 rfl
                  clear HS21
                  have HOWN := hide hown
                  clear hown
                  refine step_plain rfl ?_
                  go_simp
                  exact hK.out (.bool true) _ ⟨fun h0 => by rw [upU_same] at h0; simp [undef] at h0, fun h0 => by rw [upU_same] at h0; simp [undef] at h0⟩ ⟨G22.out _, fun e => by omega, fun e => by omega, fun _ => ⟨w21, a', c', rfl, hB, HOWN.out, (upU_other _ _ (by omega)).trans h11⟩⟩ (fun j hj _ h => gF_st (by simp [undef]) j hj h)
              · intro u w30 hF hall
                obtain ⟨w1', a', c', hw30, hbw, hown, h9⟩ := (hall 22 (by decide)).2.2.2 rfl
                have el : (L ++ [zv]).length = L.length + 1 := by simp
                have HE : Hid (St w (rtL w.heap.size O X Y Z a n cap D a0 c0 a1 c1 nx ny nz (.slice a' (L ++ [zv]).length c')) [] w30 ∧ w30.ownsRow (O + 1) 2 1 (.slice a' (L ++ [zv]).length c') (L ++ [zv]).length (ints (L ++ [zv])) ∧ O + 1 ≤ w30.heap.size) := by
                  rw [hw30, el]
                  exact ⟨(HST.out.nextB (HBL.out _) (Nat.le_succ_of_le HBW.out) hbw).fill (L1 := []) 3 _, own_farG hown (Nat.lt_succ_self _) _, by simp; exact Nat.le_trans HB6.out hbw.size⟩
                have HG9 : Hid (¬ Grw (L ++ [zv]) (.slice a' (L.length + 1) c')) := fun ⟨_, _, e⟩ => by simp at e
                have HL9 : Hid (L ++ [zv] = fl (rsF t X Y Z M T D nx ny) ((z * ny + y) * nx + x + 1)) := by
                  show _ = fl _ ((z * ny + y) * nx + x) ++ [rsF t X Y Z M T D nx ny ((z * ny + y) * nx + x)]
                  rw [← HLf.out, HF.out]
                clear hF hall hw30 hbw hown el HO6 HB6 HST HS6 HG HLf
                simp only [rgPut, Act.put, h9]
                clear h9
                go_simp
                go_wp2_with fail
                exact ⟨⟨x + 1, L ++ [zv], a', c', by omega, by simp, HL9.out, HE.out.2.1, HE.out.2.2, HE.out.1, HG9.out⟩, by simp [intOf] <;> omega⟩
            · obtain rfl : x = nx := by omega
              go_wp2_with fail
              exact ⟨⟨y + 1, L, af, cf, by omega, by simp, by rw [HLf.out, ← Nat.add_assoc, Nat.succ_mul], HO.out, HB.out, HST.out, HG.out⟩, by simp [intOf] <;> omega⟩
        · obtain rfl : y = ny := by omega
          go_wp2_with fail
          exact ⟨⟨z + 1, L, af, cf, by omega, by simp, by rw [HLf.out, Nat.succ_mul], HO.out, HB.out, HST.out, HG.out⟩, by simp [intOf] <;> omega⟩
    · obtain rfl : z = nz := by omega
      have ho := HO.out
      have hlen : L.length = z * ny * nx := by rw [HLf.out, fl_len]
      have hst := HST.out
      rw [HLf.out, fl_len] at ho
      rw [hlen] at hst
      obtain ⟨NN, hNN⟩ : ∃ NN, NN = z * ny * nx := ⟨_, rfl⟩
      rw [← hNN] at ho hst
      obtain ⟨a', cc, b1, e, ow1, hb1⟩ := ow_fl ho
      cases e
      have HV := hide hst
      have HNN := hide hNN
      have hBv := HBL.out (.slice af NN cf) (w.heap.size + 2) (by simp [blocks, rtL])
      clear HLf HO HB HST HG ho hst hlen hNN hlz
      obtain ⟨z0, z1, z2, z3⟩ := HV.out.im4 0 rfl
      obtain ⟨o0, o1, o2, o3⟩ := HV.out.im4 1 rfl
      have f0 := HV.out.free 1 rfl 0 rfl
      have f1 := HV.out.free 1 rfl 1 rfl
      have f2 := HV.out.free 1 rfl 2 rfl
      have f3 := HV.out.free 1 rfl 3 rfl
      have HZ := hide ((((HV.out.fill (L1 := [_]) 0 (.int .i64 (nx : Int))).fill (L1 := [_]) 1 (.int .i64 (ny : Int))).fill (L1 := [_]) 2 (.int .i64 (z : Int))).fill (L1 := [_]) 3 (.slice af NN cf))
      have hkz : Kept (w.heap.size + 2) wz ((((wz.setCell ⟨w.heap.size + 2, 0, none⟩ (.int .i64 (nx : Int))).setCell ⟨w.heap.size + 2, 1, none⟩ (.int .i64 (ny : Int))).setCell ⟨w.heap.size + 2, 2, none⟩ (.int .i64 (z : Int))).setCell ⟨w.heap.size + 2, 3, none⟩ (.slice af NN cf)) := ((((Kept.refl (w.heap.size + 2) wz).setCell (a := ⟨w.heap.size + 2, 0, none⟩) rfl _).setCell (a := ⟨w.heap.size + 2, 1, none⟩) rfl _).setCell (a := ⟨w.heap.size + 2, 2, none⟩) rfl _).setCell (a := ⟨w.heap.size + 2, 3, none⟩) rfl _
      obtain ⟨wy, hy⟩ : ∃ wy, ((((wz.setCell ⟨w.heap.size + 2, 0, none⟩ (.int .i64 (nx : Int))).setCell ⟨w.heap.size + 2, 1, none⟩ (.int .i64 (ny : Int))).setCell ⟨w.heap.size + 2, 2, none⟩ (.int .i64 (z : Int))).setCell ⟨w.heap.size + 2, 3, none⟩ (.slice af NN cf)) = wy := ⟨_, rfl⟩
      rw [hy] at HZ hkz
      have y0 := HZ.out.cell 1 rfl 0 rfl
      have y1 := HZ.out.cell 1 rfl 1 rfl
      have y2 := HZ.out.cell 1 rfl 2 rfl
      have y3 := HZ.out.cell 1 rfl 3 rfl
      have HB3 := hide HZ.out.below
      have HOW : Hid (NN = 0 ∨ (Ow af b1 NN (rsF t X Y Z M T D nx ny) wy ∧ w.heap.size ≤ b1)) := by
        have hw := HBW.out
        rcases hb1 with h0 | h0
        · exact .inl h0
        · exact .inr ⟨ow1.kept hkz (by omega), by omega⟩
      clear HV HZ hkz ow1 hb1 hBv
      go_wp2_with fail
      refine bodyPost_ret (v := vVolume (nx : Int) (ny : Int) (z : Int) af NN cf) (by simp [results, Try.results7, go_sem, y0, y1, y2, y3]) rfl ?_
      rw [← HNN.out]
      rcases HOW.out with h0 | ⟨h0, h2⟩
      · exact ⟨af, cf, b1, rfl, .inl h0, .inl h0, HB3.out⟩
      · exact ⟨af, cf, b1, rfl, h0, .inr h2, HB3.out⟩

end Go.Proofs.Ytpbeogepgjbacaa
