/- Reslice, the program. -/
import Derived.Test.YtpbeogepgjbacaaRsm
import Derived.Test.YtpbeogepgjbacaaGap
import Derived.Test.YtpbeogepgjbacaaRgv
import Derived.Test.YtpbeogepgjbacaaPla
import Derived.Test.YtpbeogepgjbacaaFrq
import Derived.Test.YtpbeogepgjbacaaKps
import Derived.Test.YtpbeogepgjbacaaVli
namespace Go.Proofs.Ytpbeogepgjbacaa
open Go.RowKit Go.Lib

/-- a volume is answered -/
def VoR (rX rY rZ : Int) (rN : Nat) (s : Nat → Int) (w : World) (e : Ending) (w' : World) : Prop :=
  ∃ a cap b, e = .returned (vVolume rX rY rZ a rN cap) ∧ Ow a b rN s w' ∧ (rN = 0 ∨ w.heap.size ≤ b) ∧ Below w.heap.size w w'
/-- what lies below B stays -/
theorem St.nextB {w0 : World} {L : List BoxT} {O : List OwnT} {w w' : World} (h : St w0 L O w) {B : Nat} (hB : ∀ b ∈ blocks L O, b < B) (h0 : w0.heap.size ≤ B) (hb : Below B w w') : St w0 L O w' := by
  refine ⟨h.below.trans (hb.mono h0), fun x hx => (h.bx x hx).below hb (hB _ (mem_blocks_box hx)), fun x hx => ?_, fun b hb' => ⟨(h.lt b hb').1, Nat.lt_of_lt_of_le (h.lt b hb').2 hb.size⟩, h.nd⟩
  rcases h.ow x hx with h1 | ⟨h1, h2⟩
  · exact .inl h1
  · by_cases h3 : x.2.2.1 = 0
    · exact .inl h3
    · exact .inr ⟨h1, h2.below hb (hB _ (mem_blocks_own hx h3))⟩
/-- the boxes: the new volume, the mapping, the answer, the frame, the volume -/
def rsL (B Q O : Nat) (X Y Z : Int) (a : Option Addr) (n cap : Nat) (D : Int) (a0 : Option Addr) (c0 : Nat) (a1 : Option Addr) (c1 : Nat) (M T : Nat → Int) (nx ny nz : Nat) (v : Value) : List BoxT :=
  [(O, [.int .i64 (nx : Int), .int .i64 (ny : Int), .int .i64 (nz : Int), v]), (Q, c13 M T D), (B + 2, [.int .i64 0, .int .i64 0, .int .i64 0, .slice none 0 0]), (B + 1, [.slice a0 9 c0, .slice a1 3 c1, .int .i64 D]), (B, [.int .i64 X, .int .i64 Y, .int .i64 Z, .slice a n cap])]


set_option maxRecDepth 100000 in
set_option maxHeartbeats 16000000 in
theorem reslice_go (X Y Z : Int) (a : Option Addr) (n cap : Nat) (t : Nat → Int) (hX : 1 ≤ X ∧ X ≤ 32) (hY : 1 ≤ Y ∧ Y ≤ 32) (hZ : 1 ≤ Z ∧ Z ≤ 32) (hn : (n : Int) = X * Y * Z) (hv : volB X Y Z n t = true) (hl : n ≤ 1048576) (D : Int) (a0 : Option Addr) (c0 : Nat) (M : Nat → Int) (a1 : Option Addr) (c1 : Nat) (T : Nat → Int)
    (hf : frI D 9 M 3 T = true) (bD : 1 ≤ D ∧ D ≤ 1000000) (bM : ∀ k, k < 9 → -1000000 ≤ M k ∧ M k ≤ 1000000) (bT : ∀ k, k < 3 → -1000000 ≤ T k ∧ T k ≤ 1000000) (nx ny nz : Nat) (hnx : 1 ≤ nx ∧ nx ≤ 32) (hny : 1 ≤ ny ∧ ny ≤ 32) (hnz : 1 ≤ nz ∧ nz ≤ 32) (w : World) (h : Px a n t w) (h0 : Px a0 9 M w) (h1 : Px a1 3 T w) :
    Calls Try.prog 10 #[vVolume X Y Z a n cap, vFrame D a0 9 c0 a1 3 c1, .int .i64 (nx : Int), .int .i64 (ny : Int), .int .i64 (nz : Int)] w (VoR (nx : Int) (ny : Int) (nz : Int) (nz * ny * nx) (rsF t X Y Z M T D nx ny) w) := by
  have HS0 := hide ((((St.start w).box [.int .i64 X, .int .i64 Y, .int .i64 Z, .slice a n cap] 29).box' [.slice a0 9 c0, .slice a1 3 c1, .int .i64 D] 32 (b := w.heap.size + 1) (by simp)).box' [.int .i64 0, .int .i64 0, .int .i64 0, .slice none 0 0] 29 (b := w.heap.size + 2) (by simp))
  have c := mappingOf_any D a0 9 c0 M a1 3 c1 T _ (h0.below HS0.out.below) (h1.below HS0.out.below)
  unfold MpR at c
  rw [hf] at c
  rw [show mapV (sel (len93 9 3) M) (sel (len93 9 3) T) (selD (len93 9 3) D) = mapV M T D from rfl] at c
  have cV := fun w' h => implVolumeOk_any X Y Z a n cap t hl w' h
  rw [hv] at cV
  have cE := fun w' => areEdges_any (nx : Int) (ny : Int) (nz : Int) w'
  rw [show edgB (nx : Int) (ny : Int) (nz : Int) = true by unfold edgB inB; simp; omega] at cE
  have cP := fun (x y z : Nat) (hx : x < 32) (hy : y < 32) (hz : z < 32) w' => place_any M T D (x : Int) (y : Int) (z : Int) bD bM bT (by omega) (by omega) (by omega) w'
  have cN := fun (x y z : Nat) (hx : x < 32) (hy : y < 32) (hz : z < 32) w' h => voxelOf_any X Y Z a n cap t hX hY hZ hn bD bM bT hx hy hz w' h
  have HP := hide h
  have HCP := hide cP
  have HCN := hide cN
  clear h h0 h1 hf hv hX hY hZ hn bD bM bT hl cP cN
  obtain ⟨i0, i1, i2⟩ := HS0.out.im3 1 rfl
  unfold mapV at c
  go_enter Try.func10, Try.ntmps10
  go_wp2_with fail
  refine c.mono ?_
  rintro e w1 ⟨rfl, hb⟩
  have HS1 := hide ((HS0.out.next hb).box (c13 M T D) 60)
  clear c hb HS0 i0 i1 i2
  obtain ⟨i0, i1, i2, i3⟩ := HS1.out.im4 3 rfl
  go_upto_region 2 with fail
  generalize hw2 : w1.alloc (.cells (c13 M T D).toArray 60) = w2 at HS1 i0 i1 i2 i3
  have hw2' : w1.alloc (.cells #[.int .i64 (M 0), .int .i64 (M 1), .int .i64 (M 2), .int .i64 (M 3), .int .i64 (M 4), .int .i64 (M 5), .int .i64 (M 6), .int .i64 (M 7), .int .i64 (M 8), .int .i64 (T 0), .int .i64 (T 1), .int .i64 (T 2), .int .i64 D] 60) = w2 := hw2
  try rw [hw2']
  clear hw2 hw2'
  generalize w1.heap.size = Q at *
  go_wp2_with fail
  refine (cV _ (HP.out.below HS1.out.below)).mono ?_
  rintro e w3 ⟨rfl, hb⟩
  have HS3 := hide (HS1.out.next hb)
  clear cV hb HS1 i0 i1 i2 i3
  go_wp2_with fail
  refine (cE _).mono ?_
  rintro e w3' ⟨rfl, rfl⟩
  clear cE
  have HS4 := hide (HS3.out.box [.int .i64 (nx : Int), .int .i64 (ny : Int), .int .i64 (nz : Int), .slice none 0 0] 29)
  have hsz : (w3'.alloc (.cells [.int .i64 (nx : Int), .int .i64 (ny : Int), .int .i64 (nz : Int), .slice none 0 0].toArray 29)).heap.size = w3'.heap.size + 1 := by simp
  have HBW : Hid (w.heap.size ≤ w3'.heap.size) := HS3.out.below.size
  go_wp2_with fail
  generalize w3'.alloc (.cells [.int .i64 (nx : Int), .int .i64 (ny : Int), .int .i64 (nz : Int), .slice none 0 0].toArray 29) = w4 at *
  generalize w3'.heap.size = O at *
  have HST0 : Hid (St w (rsL w.heap.size Q O X Y Z a n cap D a0 c0 a1 c1 M T nx ny nz (.slice none 0 0)) [] w4) := HS4
  have HBL : Hid (∀ v, ∀ b ∈ blocks (rsL w.heap.size Q O X Y Z a n cap D a0 c0 a1 c1 M T nx ny nz v) [], b < O + 1) := fun v b hb => by
    have := (HST0.out.lt b hb).2
    omega
  have HSZ : Hid (O + 1 ≤ w4.heap.size) := by show _ ≤ _; omega
  clear HS3 HS4 hsz
  go_loopw [42, 64] (fun i g wr => ∃ (z : Nat) (L : List Int) (af : Option Addr) (cf : Nat), z ≤ nz ∧ i = .int .i64 z ∧ L = fl (rsF t X Y Z M T D nx ny) (z * ny * nx) ∧ wr.ownsRow (O + 1) 2 1 (.slice af L.length cf) L.length (ints L) ∧ O + 1 ≤ wr.heap.size ∧ St w (rsL w.heap.size Q O X Y Z a n cap D a0 c0 a1 c1 M T nx ny nz (.slice af L.length cf)) [] wr ∧ ¬ Grw L g) (fun i _ _ => nz - (intOf i).toNat)
  case atStart => exact ⟨0, [], none, 0, Nat.zero_le _, rfl, by rw [Nat.zero_mul, Nat.zero_mul]; rfl, World.ownsRow_nil _ _ _ _, HSZ.out, HST0.out, fun ⟨_, _, h⟩ => by simp [undef] at h⟩
  case round =>
    obtain ⟨z, L, af, cf, hz, rfl, hLf, ho, hB, hst, hg⟩ := hrel
    obtain ⟨wz, hwz⟩ : ∃ wz, wz = wr := ⟨_, rfl⟩
    subst hwz
    clear HSZ HST0
    have HLf := hide hLf
    have HO := hide ho
    have HB := hide hB
    have HST := hide hst
    have HG := hide hg
    clear hLf ho hB hst hg
    by_cases hlz : z < nz
    · go_wp2_with fail
      go_loopw [46, 64] (fun i g wr => ∃ (y : Nat) (L : List Int) (af : Option Addr) (cf : Nat), y ≤ ny ∧ i = .int .i64 y ∧ L = fl (rsF t X Y Z M T D nx ny) ((z * ny + y) * nx) ∧ wr.ownsRow (O + 1) 2 1 (.slice af L.length cf) L.length (ints L) ∧ O + 1 ≤ wr.heap.size ∧ St w (rsL w.heap.size Q O X Y Z a n cap D a0 c0 a1 c1 M T nx ny nz (.slice af L.length cf)) [] wr ∧ ¬ Grw L g) (fun i _ _ => ny - (intOf i).toNat)
      case atStart => exact ⟨0, L, af, cf, Nat.zero_le _, rfl, by rw [Nat.add_zero]; exact HLf.out, HO.out, HB.out, HST.out, HG.out⟩
      case round =>
        obtain ⟨y, L, af, cf, hy, rfl, hLf, ho, hB, hst, hg⟩ := hrel
        obtain ⟨wy, hwy⟩ : ∃ wy, wy = wr := ⟨_, rfl⟩
        subst hwy
        clear HLf HO HB HST HG
        have HLf := hide hLf
        have HO := hide ho
        have HB := hide hB
        have HST := hide hst
        have HG := hide hg
        clear hLf ho hB hst hg
        by_cases hly : y < ny
        · go_wp2_with fail
          go_loopw [50, 64] (fun i g wr => ∃ (x : Nat) (L : List Int) (af : Option Addr) (cf : Nat), x ≤ nx ∧ i = .int .i64 x ∧ L = fl (rsF t X Y Z M T D nx ny) ((z * ny + y) * nx + x) ∧ wr.ownsRow (O + 1) 2 1 (.slice af L.length cf) L.length (ints L) ∧ O + 1 ≤ wr.heap.size ∧ St w (rsL w.heap.size Q O X Y Z a n cap D a0 c0 a1 c1 M T nx ny nz (.slice af L.length cf)) [] wr ∧ ¬ Grw L g) (fun i _ _ => nx - (intOf i).toNat)
          case atStart => exact ⟨0, L, af, cf, Nat.zero_le _, rfl, HLf.out, HO.out, HB.out, HST.out, HG.out⟩
          case round =>
            obtain ⟨x, L, af, cf, hx, rfl, hLf, ho, hB, hst, hg⟩ := hrel
            obtain ⟨wx, hwx⟩ : ∃ wx, wx = wr := ⟨_, rfl⟩
            subst hwx
            clear HLf HO HB HST HG
            have HLf := hide hLf
            have HO := hide ho
            have HB := hide hB
            have HST := hide hst
            have HG := hide hg
            clear hLf ho hB hst hg
            by_cases hlx : x < nx
            · skip
              have HF := hide (rsF_at t X Y Z M T D (z := z) hlx hly)
              have cP := HCP.out x y z (by omega) (by omega) (by omega)
              have cN := HCN.out x y z (by omega) (by omega) (by omega)
              obtain ⟨PL, hPL⟩ : ∃ PL, PL = plV (mvX M T x y z 0) (mvX M T x y z 1) (mvX M T x y z 2) D (mvG M T D x y z) := ⟨_, rfl⟩
              obtain ⟨zv, hzv⟩ : ∃ zv, zv = rsN t X Y Z M T D (x : Int) (y : Int) (z : Int) := ⟨_, rfl⟩
              rw [← hPL] at cP cN
              rw [← hzv] at cN HF
              clear hPL hzv
              have HCPx := hide cP
              have HCNx := hide cN
              clear cP cN
              have HLL : Hid (L.length ≤ 40000) := by
                have h1 := lt3 hlx hly hlz
                have h2 : nx * ny * nz ≤ 32 * 32 * 32 := Nat.mul_le_mul (Nat.mul_le_mul (by omega) (by omega)) (by omega)
                have h3 := HLf.out
                show _ ≤ _
                rw [h3, fl_len]
                omega
              obtain ⟨ti, hi1, hi2, hi3, hi4⟩ := info2
              have HI1 := hide hi1
              clear hi1
              go_upto_region 14 with fail
              obtain ⟨G, hG⟩ : ∃ G : Nat → Value → Prop, G = (fun j v => match j with | 0 => v = .pointer (some ⟨O, 3, none⟩) | 1 => v = .slice af L.length cf | 2 => v = vVolume X Y Z a n cap | 3 => v = mapV M T D | 4 => v = .int .i64 (x : Int) | 5 => v = .int .i64 (y : Int) | 6 => v = .int .i64 (z : Int) | 7 => v = .agg #[.int .i64 (x : Int), .int .i64 (y : Int), .int .i64 (z : Int)] | 8 => v = PL | 9 => v = .int .i64 zv | 12 => v = .pointer (some ⟨O, 3, none⟩) | _ => True) := ⟨_, rfl⟩
              have G0 : Hid (∀ v, G 0 v ↔ v = .pointer (some ⟨O, 3, none⟩)) := fun v => by rw [hG]; exact Iff.rfl
              have G1 : Hid (∀ v, G 1 v ↔ v = .slice af L.length cf) := fun v => by rw [hG]; exact Iff.rfl
              have G2 : Hid (∀ v, G 2 v ↔ v = vVolume X Y Z a n cap) := fun v => by rw [hG]; exact Iff.rfl
              have G3 : Hid (∀ v, G 3 v ↔ v = mapV M T D) := fun v => by rw [hG]; exact Iff.rfl
              have G4 : Hid (∀ v, G 4 v ↔ v = .int .i64 (x : Int)) := fun v => by rw [hG]; exact Iff.rfl
              have G5 : Hid (∀ v, G 5 v ↔ v = .int .i64 (y : Int)) := fun v => by rw [hG]; exact Iff.rfl
              have G6 : Hid (∀ v, G 6 v ↔ v = .int .i64 (z : Int)) := fun v => by rw [hG]; exact Iff.rfl
              have G7 : Hid (∀ v, G 7 v ↔ v = .agg #[.int .i64 (x : Int), .int .i64 (y : Int), .int .i64 (z : Int)]) := fun v => by rw [hG]; exact Iff.rfl
              have G8 : Hid (∀ v, G 8 v ↔ v = PL) := fun v => by rw [hG]; exact Iff.rfl
              have G9 : Hid (∀ v, G 9 v ↔ v = .int .i64 zv) := fun v => by rw [hG]; exact Iff.rfl
              have G10 : Hid (∀ v, G 10 v) := fun v => by rw [hG]; trivial
              have G11 : Hid (∀ v, G 11 v) := fun v => by rw [hG]; trivial
              have G12 : Hid (∀ v, G 12 v ↔ v = .pointer (some ⟨O, 3, none⟩)) := fun v => by rw [hG]; exact Iff.rfl
              have G13 : Hid (∀ v, G 13 v) := fun v => by rw [hG]; trivial
              clear hG
              refine region_opsV (gR 11 13 (O + 1) wx L af cf) (gF 10 11 13 (O + 1) wx L O 3 zv G) (by kernel_rfl) (by kernel_rfl) (by kernel_rfl) (by kernel_rfl) ?_ ?_ ?_
              · exact fun _ => ⟨(Below.refl _ _).drew, .inl HO.out⟩
              · refine ⟨?_, ?_, ?_, ?_, ?_, ?_, ?_, ?_, ?_, ?_, ?_, ?_, ?_, ?_, trivial⟩
                · intro u w21 au hsl hel hu hF hp' K hK
                  have hS : u 13 = undef := (hu.out 13 (by decide) (.inr (by kernel_rfl))).trans (by kernel_rfl)
                  have hB := (hF hS).1
                  have hZ : O + 1 ≤ w21.heap.size := Nat.le_trans HB.out hB.size
                  have t13 : au.tmps[13]?.getD undef = .pointer (some ⟨O, 0, none⟩) := (hel.out 13 (by kernel_rfl)).trans (by kernel_rfl)
                  refine step_plain rfl ?_
                  go_simp
                  exact hK.out (.pointer (some ⟨O, 3, none⟩)) _ (gR_up hZ hF (Below.refl _ _) 0 (by omega) (by omega) _) ⟨by rw [upU_same]; exact (G0.out _).2 rfl, fun e => by omega, fun e => by omega, fun e => by omega⟩ (fun j hj hf h => gF_up (Below.refl _ _) 0 (by omega) (by omega) _ j hj (fun e => by subst e; exact absurd (Eq.trans (Eq.symm (by kernel_rfl)) hf) Bool.false_ne_true) h)
                · intro u w21 au hsl hel hu hF hp' K hK
                  have hS : u 13 = undef := (hu.out 13 (by decide) (.inr (by kernel_rfl))).trans (by kernel_rfl)
                  have hB := (hF hS).1
                  have hZ : O + 1 ≤ w21.heap.size := Nat.le_trans HB.out hB.size
                  have h0 : u 0 = .pointer (some ⟨O, 3, none⟩) := (G0.out _).1 (PreF.get hp' 0 (by kernel_rfl)).1
                  have t53 : au.tmps[53]?.getD undef = u 0 := hsl.out 0 53 (by kernel_rfl)
                  rw [h0] at t53
                  have HS21 := hide (HST.out.nextB (HBL.out _) (Nat.le_succ_of_le HBW.out) hB)
                  have xc := HS21.out.cell 0 rfl 3 rfl
                  clear HS21
                  refine step_plain rfl ?_
                  go_simp
                  exact hK.out (.slice af L.length cf) _ (gR_up hZ hF (Below.refl _ _) 1 (by omega) (by omega) _) ⟨by rw [upU_same]; exact (G1.out _).2 rfl, fun e => by omega, fun e => by omega, fun e => by omega⟩ (fun j hj hf h => gF_up (Below.refl _ _) 1 (by omega) (by omega) _ j hj (fun e => by subst e; exact absurd (Eq.trans (Eq.symm (by kernel_rfl)) hf) Bool.false_ne_true) h)
                · intro u w21 au hsl hel hu hF hp' K hK
                  have hS : u 13 = undef := (hu.out 13 (by decide) (.inr (by kernel_rfl))).trans (by kernel_rfl)
                  have hB := (hF hS).1
                  have hZ : O + 1 ≤ w21.heap.size := Nat.le_trans HB.out hB.size
                  have t5 : au.tmps[5]?.getD undef = .pointer (some ⟨w.heap.size, 0, none⟩) := (hel.out 5 (by kernel_rfl)).trans (by kernel_rfl)
                  have HS21 := hide (HST.out.nextB (HBL.out _) (Nat.le_succ_of_le HBW.out) hB)
                  obtain ⟨x0, x1, x2, x3⟩ := HS21.out.im4 4 rfl
                  clear HS21
                  refine step_plain rfl ?_
                  go_simp
                  exact hK.out (vVolume X Y Z a n cap) _ (gR_up hZ hF (Below.refl _ _) 2 (by omega) (by omega) _) ⟨by rw [upU_same]; exact (G2.out _).2 rfl, fun e => by omega, fun e => by omega, fun e => by omega⟩ (fun j hj hf h => gF_up (Below.refl _ _) 2 (by omega) (by omega) _ j hj (fun e => by subst e; exact absurd (Eq.trans (Eq.symm (by kernel_rfl)) hf) Bool.false_ne_true) h)
                · intro u w21 au hsl hel hu hF hp' K hK
                  have hS : u 13 = undef := (hu.out 13 (by decide) (.inr (by kernel_rfl))).trans (by kernel_rfl)
                  have hB := (hF hS).1
                  have hZ : O + 1 ≤ w21.heap.size := Nat.le_trans HB.out hB.size
                  have t11 : au.tmps[11]?.getD undef = .pointer (some ⟨Q, 0, none⟩) := (hel.out 11 (by kernel_rfl)).trans (by kernel_rfl)
                  have HS21 := hide (HST.out.nextB (HBL.out _) (Nat.le_succ_of_le HBW.out) hB)
                  have x0 := HS21.out.cell 1 rfl 0 rfl
                  have x1 := HS21.out.cell 1 rfl 1 rfl
                  have x2 := HS21.out.cell 1 rfl 2 rfl
                  have x3 := HS21.out.cell 1 rfl 3 rfl
                  have x4 := HS21.out.cell 1 rfl 4 rfl
                  have x5 := HS21.out.cell 1 rfl 5 rfl
                  have x6 := HS21.out.cell 1 rfl 6 rfl
                  have x7 := HS21.out.cell 1 rfl 7 rfl
                  have x8 := HS21.out.cell 1 rfl 8 rfl
                  have x9 := HS21.out.cell 1 rfl 9 rfl
                  have x10 := HS21.out.cell 1 rfl 10 rfl
                  have x11 := HS21.out.cell 1 rfl 11 rfl
                  have x12 := HS21.out.cell 1 rfl 12 rfl
                  clear HS21
                  refine step_plain rfl ?_
                  go_simp
                  exact hK.out (mapV M T D) _ (gR_up hZ hF (Below.refl _ _) 3 (by omega) (by omega) _) ⟨by rw [upU_same]; exact (G3.out _).2 rfl, fun e => by omega, fun e => by omega, fun e => by omega⟩ (fun j hj hf h => gF_up (Below.refl _ _) 3 (by omega) (by omega) _ j hj (fun e => by subst e; exact absurd (Eq.trans (Eq.symm (by kernel_rfl)) hf) Bool.false_ne_true) h)
                · intro u w21 au hsl hel hu hF hp' K hK
                  have hS : u 13 = undef := (hu.out 13 (by decide) (.inr (by kernel_rfl))).trans (by kernel_rfl)
                  have hB := (hF hS).1
                  have hZ : O + 1 ≤ w21.heap.size := Nat.le_trans HB.out hB.size
                  have t16 : au.tmps[16]?.getD undef = .int .i64 (x : Int) := (hel.out 16 (by kernel_rfl)).trans (by kernel_rfl)
                  refine step_plain rfl ?_
                  go_simp
                  exact hK.out (.int .i64 (x : Int)) _ (gR_up hZ hF (Below.refl _ _) 4 (by omega) (by omega) _) ⟨by rw [upU_same]; exact (G4.out _).2 rfl, fun e => by omega, fun e => by omega, fun e => by omega⟩ (fun j hj hf h => gF_up (Below.refl _ _) 4 (by omega) (by omega) _ j hj (fun e => by subst e; exact absurd (Eq.trans (Eq.symm (by kernel_rfl)) hf) Bool.false_ne_true) h)
                · intro u w21 au hsl hel hu hF hp' K hK
                  have hS : u 13 = undef := (hu.out 13 (by decide) (.inr (by kernel_rfl))).trans (by kernel_rfl)
                  have hB := (hF hS).1
                  have hZ : O + 1 ≤ w21.heap.size := Nat.le_trans HB.out hB.size
                  have t15 : au.tmps[15]?.getD undef = .int .i64 (y : Int) := (hel.out 15 (by kernel_rfl)).trans (by kernel_rfl)
                  refine step_plain rfl ?_
                  go_simp
                  exact hK.out (.int .i64 (y : Int)) _ (gR_up hZ hF (Below.refl _ _) 5 (by omega) (by omega) _) ⟨by rw [upU_same]; exact (G5.out _).2 rfl, fun e => by omega, fun e => by omega, fun e => by omega⟩ (fun j hj hf h => gF_up (Below.refl _ _) 5 (by omega) (by omega) _ j hj (fun e => by subst e; exact absurd (Eq.trans (Eq.symm (by kernel_rfl)) hf) Bool.false_ne_true) h)
                · intro u w21 au hsl hel hu hF hp' K hK
                  have hS : u 13 = undef := (hu.out 13 (by decide) (.inr (by kernel_rfl))).trans (by kernel_rfl)
                  have hB := (hF hS).1
                  have hZ : O + 1 ≤ w21.heap.size := Nat.le_trans HB.out hB.size
                  have t14 : au.tmps[14]?.getD undef = .int .i64 (z : Int) := (hel.out 14 (by kernel_rfl)).trans (by kernel_rfl)
                  refine step_plain rfl ?_
                  go_simp
                  exact hK.out (.int .i64 (z : Int)) _ (gR_up hZ hF (Below.refl _ _) 6 (by omega) (by omega) _) ⟨by rw [upU_same]; exact (G6.out _).2 rfl, fun e => by omega, fun e => by omega, fun e => by omega⟩ (fun j hj hf h => gF_up (Below.refl _ _) 6 (by omega) (by omega) _ j hj (fun e => by subst e; exact absurd (Eq.trans (Eq.symm (by kernel_rfl)) hf) Bool.false_ne_true) h)
                · intro u w21 au hsl hel hu hF hp' K hK
                  have hS : u 13 = undef := (hu.out 13 (by decide) (.inr (by kernel_rfl))).trans (by kernel_rfl)
                  have hB := (hF hS).1
                  have hZ : O + 1 ≤ w21.heap.size := Nat.le_trans HB.out hB.size
                  have h4 : u 4 = .int .i64 (x : Int) := (G4.out _).1 (PreF.get hp' 4 (by kernel_rfl)).1
                  have t57 : au.tmps[57]?.getD undef = u 4 := hsl.out 4 57 (by kernel_rfl)
                  rw [h4] at t57
                  have h5 : u 5 = .int .i64 (y : Int) := (G5.out _).1 (PreF.get hp' 5 (by kernel_rfl)).1
                  have t58 : au.tmps[58]?.getD undef = u 5 := hsl.out 5 58 (by kernel_rfl)
                  rw [h5] at t58
                  have h6 : u 6 = .int .i64 (z : Int) := (G6.out _).1 (PreF.get hp' 6 (by kernel_rfl)).1
                  have t59 : au.tmps[59]?.getD undef = u 6 := hsl.out 6 59 (by kernel_rfl)
                  rw [h6] at t59
                  refine step_plain rfl ?_
                  go_simp
                  exact hK.out (.agg #[.int .i64 (x : Int), .int .i64 (y : Int), .int .i64 (z : Int)]) _ (gR_up hZ hF (Below.refl _ _) 7 (by omega) (by omega) _) ⟨by rw [upU_same]; exact (G7.out _).2 rfl, fun e => by omega, fun e => by omega, fun e => by omega⟩ (fun j hj hf h => gF_up (Below.refl _ _) 7 (by omega) (by omega) _ j hj (fun e => by subst e; exact absurd (Eq.trans (Eq.symm (by kernel_rfl)) hf) Bool.false_ne_true) h)
                · intro u w21 au hsl hel hu hF hp' K hK
                  have hS : u 13 = undef := (hu.out 13 (by decide) (.inr (by kernel_rfl))).trans (by kernel_rfl)
                  have hB := (hF hS).1
                  have hZ : O + 1 ≤ w21.heap.size := Nat.le_trans HB.out hB.size
                  have h3 : u 3 = mapV M T D := (G3.out _).1 (PreF.get hp' 3 (by kernel_rfl)).1
                  have t56 : au.tmps[56]?.getD undef = u 3 := hsl.out 3 56 (by kernel_rfl)
                  rw [h3] at t56
                  have h7 : u 7 = .agg #[.int .i64 (x : Int), .int .i64 (y : Int), .int .i64 (z : Int)] := (G7.out _).1 (PreF.get hp' 7 (by kernel_rfl)).1
                  have t60 : au.tmps[60]?.getD undef = u 7 := hsl.out 7 60 (by kernel_rfl)
                  rw [h7] at t60
                  refine step_plain rfl ?_
                  go_simp
                  refine (HCPx.out w21).mono ?_
                  rintro e w22 ⟨rfl, hb9⟩
                  exact hK.out (PL) _ (gR_up hZ hF hb9 8 (by omega) (by omega) _) ⟨by rw [upU_same]; exact (G8.out _).2 rfl, fun e => by omega, fun e => by omega, fun e => by omega⟩ (fun j hj hf h => gF_up hb9 8 (by omega) (by omega) _ j hj (fun e => by subst e; exact absurd (Eq.trans (Eq.symm (by kernel_rfl)) hf) Bool.false_ne_true) h)
                · intro u w21 au hsl hel hu hF hp' K hK
                  have hS : u 13 = undef := (hu.out 13 (by decide) (.inr (by kernel_rfl))).trans (by kernel_rfl)
                  have hB := (hF hS).1
                  have hZ : O + 1 ≤ w21.heap.size := Nat.le_trans HB.out hB.size
                  have h2 : u 2 = vVolume X Y Z a n cap := (G2.out _).1 (PreF.get hp' 2 (by kernel_rfl)).1
                  have t55 : au.tmps[55]?.getD undef = u 2 := hsl.out 2 55 (by kernel_rfl)
                  rw [h2] at t55
                  have h8 : u 8 = PL := (G8.out _).1 (PreF.get hp' 8 (by kernel_rfl)).1
                  have t61 : au.tmps[61]?.getD undef = u 8 := hsl.out 8 61 (by kernel_rfl)
                  rw [h8] at t61
                  refine step_plain rfl ?_
                  go_simp
                  refine (HCNx.out w21 (HP.out.below (HST.out.nextB (HBL.out _) (Nat.le_succ_of_le HBW.out) hB).below)).mono ?_
                  rintro e w22 ⟨rfl, hb9⟩
                  exact hK.out (.int .i64 zv) _ (gR_up hZ hF hb9 9 (by omega) (by omega) _) ⟨by rw [upU_same]; exact (G9.out _).2 rfl, fun e => by omega, fun e => by omega, fun e => by omega⟩ (fun j hj hf h => gF_up hb9 9 (by omega) (by omega) _ j hj (fun e => by subst e; exact absurd (Eq.trans (Eq.symm (by kernel_rfl)) hf) Bool.false_ne_true) h)
                · intro u w21 au hsl hel hu hF hp' K hK
                  have hS : u 13 = undef := (hu.out 13 (by decide) (.inr (by kernel_rfl))).trans (by kernel_rfl)
                  have hB := (hF hS).1
                  have hZ : O + 1 ≤ w21.heap.size := Nat.le_trans HB.out hB.size
                  have h9 : u 9 = .int .i64 zv := (G9.out _).1 (PreF.get hp' 9 (by kernel_rfl)).1
                  have t62 : au.tmps[62]?.getD undef = u 9 := hsl.out 9 62 (by kernel_rfl)
                  rw [h9] at t62
                  refine step_plain rfl ?_
                  go_simp
                  have hb9 := bnew w21 (.cells #[.int .i64 zv] 2)
                  exact hK.out (.slice (some ⟨w21.heap.size, 0, none⟩) 1 1) _ (gR_up hZ hF hb9 10 (by omega) (by omega) _) ⟨G10.out _, fun _ => .inr (.inr ⟨w21.heap.size, upU_same _ _ _, hZ, heap_alloc_new w21 _⟩), fun e => by omega, fun e => by omega⟩ (fun j hj hf h => gF_up hb9 10 (by omega) (by omega) _ j hj (fun e => by subst e; exact absurd (Eq.trans (Eq.symm (by kernel_rfl)) hf) Bool.false_ne_true) h)
                · intro u w21 au hsl hel hu hF hp' K hK
                  have hS : u 13 = undef := (hu.out 13 (by decide) (.inr (by kernel_rfl))).trans (by kernel_rfl)
                  have hB := (hF hS).1
                  have hZ : O + 1 ≤ w21.heap.size := Nat.le_trans HB.out hB.size
                  have hg9 : ¬ Grw L (u 11) := by rw [hu.out 11 (by decide) (.inl rfl)]; exact HG.out
                  have hown := (hF hS).2.resolve_right hg9
                  have h1 : u 1 = .slice af L.length cf := (G1.out _).1 (PreF.get hp' 1 (by kernel_rfl)).1
                  have t54 : au.tmps[54]?.getD undef = u 1 := hsl.out 1 54 (by kernel_rfl)
                  rw [h1] at t54
                  obtain ⟨b, h10, hBb, hnew⟩ := (((PreF.get hp' 10 (by kernel_rfl)).2.1 rfl).resolve_left (fun h => h hS)).resolve_left hg9
                  have t63 : au.tmps[63]?.getD undef = u 10 := hsl.out 10 63 (by kernel_rfl)
                  rw [h10] at t63
                  have HOWN := hide hown
                  have HNEW := hide hnew
                  have HBW9 := hide hB
                  clear hown hnew hB
                  refine step_append_lies _ (by rfl) _ _ _ (by rfl) (O + 1) 2 ti _ 1 8 Try.underlying22 HI1.out hi2 hi3 hi4 rfl (by omega) (.slice af L.length cf) L.length (ints L) (by rw [eval_tmp]; exact t54) HOWN.out ⟨b, 0, none⟩ 1 1 [.int .i64 zv] (by rw [eval_tmp]; exact t63) (by rfl) (World.news_of_block (cs := #[.int .i64 zv]) (t := 2) (fr := (0, 0)) HNEW.out) (by simp [Value.oneCell']) (by omega) (by have := HLL.out; unfold maxLen; omega) (by have := HLL.out; omega) hZ w21.heap.size rfl ?_
                  intro gg cap1 w22 hown1 hgrow hat hlt1
                  have hbg : Below (O + 1) w21 w22 := (Below.refl _ _).grown hgrow hZ (fun q' hq' => (HOWN.out.lt q' hq').1)
                  have hgv : Grw L (.slice (some ⟨gg, 0, none⟩) (L.length + 1) cap1) := ⟨_, _, rfl⟩
                  exact hK.out (.slice (some ⟨gg, 0, none⟩) (L.length + 1) cap1) _ (fun _ => ⟨HBW9.out.trans hbg, .inr (by rw [upU_same]; exact hgv)⟩) ⟨G11.out _, fun e => by omega, fun _ => .inr ⟨some ⟨gg, 0, none⟩, cap1, upU_same _ _ _, by rw [ints_append]; exact hown1⟩, fun e => by omega⟩ (fun j hj hf h => gF_gr hgv j hj (fun e => by subst e; exact absurd (Eq.trans (Eq.symm (by kernel_rfl)) hf) Bool.false_ne_true) h)
                · intro u w21 au hsl hel hu hF hp' K hK
                  have hS : u 13 = undef := (hu.out 13 (by decide) (.inr (by kernel_rfl))).trans (by kernel_rfl)
                  have hB := (hF hS).1
                  have hZ : O + 1 ≤ w21.heap.size := Nat.le_trans HB.out hB.size
                  have t13 : au.tmps[13]?.getD undef = .pointer (some ⟨O, 0, none⟩) := (hel.out 13 (by kernel_rfl)).trans (by kernel_rfl)
                  refine step_plain rfl ?_
                  go_simp
                  exact hK.out (.pointer (some ⟨O, 3, none⟩)) _ (gR_up hZ hF (Below.refl _ _) 12 (by omega) (by omega) _) ⟨by rw [upU_same]; exact (G12.out _).2 rfl, fun e => by omega, fun e => by omega, fun e => by omega⟩ (fun j hj hf h => gF_up (Below.refl _ _) 12 (by omega) (by omega) _ j hj (fun e => by subst e; exact absurd (Eq.trans (Eq.symm (by kernel_rfl)) hf) Bool.false_ne_true) h)
                · intro u w21 au hsl hel hu hF hp' K hK
                  have hS : u 13 = undef := (hu.out 13 (by decide) (.inl rfl)).trans (by kernel_rfl)
                  have hB := (hF hS).1
                  have hZ : O + 1 ≤ w21.heap.size := Nat.le_trans HB.out hB.size
                  obtain ⟨a', c', h11, hown⟩ := ((PreF.get hp' 11 (by kernel_rfl)).2.2.1 rfl).resolve_left (fun h => h hS)
                  have t64 : au.tmps[64]?.getD undef = u 11 := hsl.out 11 64 (by kernel_rfl)
                  rw [h11] at t64
                  have h12 : u 12 = .pointer (some ⟨O, 3, none⟩) := (G12.out _).1 (PreF.get hp' 12 (by kernel_rfl)).1
                  have t65 : au.tmps[65]?.getD undef = u 12 := hsl.out 12 65 (by kernel_rfl)
                  rw [h12] at t65
                  have HS21 := hide (HST.out.nextB (HBL.out _) (Nat.le_succ_of_le HBW.out) hB)
                  have x3 := HS21.out.cell 0 rfl 3 rfl
                  have y3 := HS21.out.free 0 rfl 3 rfl
                  clear HS21
                  have HOWN := hide hown
                  clear hown
                  refine step_plain rfl ?_
                  go_simp
                  exact hK.out (.bool true) _ (fun h0 => by rw [upU_same] at h0; simp [undef] at h0) ⟨G13.out _, fun e => by omega, fun e => by omega, fun _ => ⟨w21, a', c', rfl, hB, HOWN.out, (upU_other _ _ (by omega)).trans h11⟩⟩ (fun j hj _ h => gF_st (by simp [undef]) j hj h)
              · intro u w30 hF hall
                obtain ⟨w1', a', c', hw30, hbw, hown, h9⟩ := (hall 13 (by decide)).2.2.2 rfl
                have el : (L ++ [zv]).length = L.length + 1 := by simp
                have HE : Hid (St w (rsL w.heap.size Q O X Y Z a n cap D a0 c0 a1 c1 M T nx ny nz (.slice a' (L ++ [zv]).length c')) [] w30 ∧ w30.ownsRow (O + 1) 2 1 (.slice a' (L ++ [zv]).length c') (L ++ [zv]).length (ints (L ++ [zv])) ∧ O + 1 ≤ w30.heap.size) := by
                  rw [hw30, el]
                  exact ⟨(HST.out.nextB (HBL.out _) (Nat.le_succ_of_le HBW.out) hbw).fill (L1 := []) 3 _, own_farG hown (Nat.lt_succ_self _) _, by simp; exact Nat.le_trans HB.out hbw.size⟩
                have HG9 : Hid (¬ Grw (L ++ [zv]) (.slice a' (L.length + 1) c')) := fun ⟨_, _, e⟩ => by simp at e
                have HL9 : Hid (L ++ [zv] = fl (rsF t X Y Z M T D nx ny) ((z * ny + y) * nx + x + 1)) := by
                  show _ = fl _ ((z * ny + y) * nx + x) ++ [rsF t X Y Z M T D nx ny ((z * ny + y) * nx + x)]
                  rw [← HLf.out, HF.out]
                clear hF hall hw30 hbw hown el HO HB HST HG HLf
                simp only [rgPut, Act.put, h9]
                clear h9
                go_simp
                go_wp2_with fail
                exact ⟨⟨x + 1, L ++ [zv], a', c', by omega, by simp, HL9.out, HE.out.2.1, HE.out.2.2, HE.out.1, HG9.out⟩, by simp [intOf] <;> omega⟩
            · obtain rfl : x = nx := by omega
              go_wp2_with fail
              exact ⟨⟨y + 1, L, af, cf, by omega, by simp, by rw [HLf.out, ← Nat.add_assoc, Nat.succ_mul], HO.out, HB.out, HST.out, HG.out⟩, by simp [intOf] <;> omega⟩
        · obtain rfl : y = ny := by omega
          go_wp2_with fail
          exact ⟨⟨z + 1, L, af, cf, by omega, by simp, by rw [HLf.out, Nat.succ_mul], HO.out, HB.out, HST.out, HG.out⟩, by simp [intOf] <;> omega⟩
    · obtain rfl : z = nz := by omega
      have ho := HO.out
      have hlen : L.length = z * ny * nx := by rw [HLf.out, fl_len]
      have hst := HST.out
      rw [HLf.out, fl_len] at ho
      rw [hlen] at hst
      obtain ⟨NN, hNN⟩ : ∃ NN, NN = z * ny * nx := ⟨_, rfl⟩
      rw [← hNN] at ho hst
      obtain ⟨a', cc, b1, e, ow1, hb1⟩ := ow_fl ho
      cases e
      have HV := hide hst
      have HNN := hide hNN
      have hBv := HBL.out (.slice af NN cf) (w.heap.size + 2) (by simp [blocks, rsL])
      clear HLf HO HB HST HG ho hst hlen hNN hlz
      obtain ⟨z0, z1, z2, z3⟩ := HV.out.im4 0 rfl
      obtain ⟨o0, o1, o2, o3⟩ := HV.out.im4 2 rfl
      have f0 := HV.out.free 2 rfl 0 rfl
      have f1 := HV.out.free 2 rfl 1 rfl
      have f2 := HV.out.free 2 rfl 2 rfl
      have f3 := HV.out.free 2 rfl 3 rfl
      have HZ := hide ((((HV.out.fill (L1 := [_, _]) 0 (.int .i64 (nx : Int))).fill (L1 := [_, _]) 1 (.int .i64 (ny : Int))).fill (L1 := [_, _]) 2 (.int .i64 (z : Int))).fill (L1 := [_, _]) 3 (.slice af NN cf))
      have hkz : Kept (w.heap.size + 2) wz ((((wz.setCell ⟨w.heap.size + 2, 0, none⟩ (.int .i64 (nx : Int))).setCell ⟨w.heap.size + 2, 1, none⟩ (.int .i64 (ny : Int))).setCell ⟨w.heap.size + 2, 2, none⟩ (.int .i64 (z : Int))).setCell ⟨w.heap.size + 2, 3, none⟩ (.slice af NN cf)) := ((((Kept.refl (w.heap.size + 2) wz).setCell (a := ⟨w.heap.size + 2, 0, none⟩) rfl _).setCell (a := ⟨w.heap.size + 2, 1, none⟩) rfl _).setCell (a := ⟨w.heap.size + 2, 2, none⟩) rfl _).setCell (a := ⟨w.heap.size + 2, 3, none⟩) rfl _
      obtain ⟨wy, hy⟩ : ∃ wy, ((((wz.setCell ⟨w.heap.size + 2, 0, none⟩ (.int .i64 (nx : Int))).setCell ⟨w.heap.size + 2, 1, none⟩ (.int .i64 (ny : Int))).setCell ⟨w.heap.size + 2, 2, none⟩ (.int .i64 (z : Int))).setCell ⟨w.heap.size + 2, 3, none⟩ (.slice af NN cf)) = wy := ⟨_, rfl⟩
      rw [hy] at HZ hkz
      have y0 := HZ.out.cell 2 rfl 0 rfl
      have y1 := HZ.out.cell 2 rfl 1 rfl
      have y2 := HZ.out.cell 2 rfl 2 rfl
      have y3 := HZ.out.cell 2 rfl 3 rfl
      have HB3 := hide HZ.out.below
      have HOW : Hid (NN = 0 ∨ (Ow af b1 NN (rsF t X Y Z M T D nx ny) wy ∧ w.heap.size ≤ b1)) := by
        have hw := HBW.out
        rcases hb1 with h0 | h0
        · exact .inl h0
        · exact .inr ⟨ow1.kept hkz (by omega), by omega⟩
      clear HV HZ hkz ow1 hb1 hBv
      go_wp2_with fail
      refine bodyPost_ret (v := vVolume (nx : Int) (ny : Int) (z : Int) af NN cf) (by simp [results, Try.results10, go_sem, y0, y1, y2, y3]) rfl ?_
      rw [← HNN.out]
      rcases HOW.out with h0 | ⟨h0, h2⟩
      · exact ⟨af, cf, b1, rfl, .inl h0, .inl h0, HB3.out⟩
      · exact ⟨af, cf, b1, rfl, h0, .inr h2, HB3.out⟩

end Go.Proofs.Ytpbeogepgjbacaa
