/- Brightest, the specification. -/
import Derived.Test.YtpbeogepgjbacaaBrj
import Derived.Test.YtpbeogepgjbacaaRgs
namespace Go.Proofs.Ytpbeogepgjbacaa
open Go.RowKit

set_option maxRecDepth 100000 in
theorem l1Max_any (x y : Int) (w : World) : Calls Try.prog 38 #[.int .i64 x, .int .i64 y] w fun e w' => e = .returned (.int .i64 (max x y)) ∧ w' = w := by
  by_cases h : y < x
  · have hm : max x y = x := by omega
    rw [hm]
    go_enter Try.func38, Try.ntmps38
    go_wp2
    go_ret
    exact ⟨rfl, rfl⟩
  · have hm : max x y = y := by omega
    rw [hm]
    go_enter Try.func38, Try.ntmps38
    go_wp2
    go_ret
    exact ⟨rfl, rfl⟩
theorem St.cg0 {w0 : World} {L : List BoxT} {O : List OwnT} {w : World} {b n : Nat} {f g : Nat → Int} (h : St w0 L ((some ⟨b, 0, none⟩, b, n, fun q => .int .i64 (f q)) :: O) w) (hn : n ≠ 0) (e : ∀ q, q < n → f q = g q) : St w0 L ((some ⟨b, 0, none⟩, b, n, fun q => .int .i64 (g q)) :: O) w := by
  refine h.mark0 hn (Kept.refl b w) ?_
  rcases h.nthO 0 rfl with h1 | ⟨h1, h2⟩
  · exact absurd h1 hn
  · exact .inr ⟨h1, fun k hk => by show _ = some (Value.int .i64 (g k)) ∧ _; rw [← e k hk]; exact h2 k hk⟩
theorem pos3 {x y z k : Nat} (hx : 0 < x) (hy : 0 < y) (hk : k < x * y * z) : k % x < x ∧ k / x % y < y ∧ k / x / y < z := by
  refine ⟨Nat.mod_lt _ hx, Nat.mod_lt _ hy, ?_⟩
  have h1 : k / x < y * z := Nat.div_lt_of_lt_mul (by rw [← Nat.mul_assoc]; exact hk)
  exact Nat.div_lt_of_lt_mul h1
theorem lt2 {a b p q : Nat} (ha : a < p) (hb : b < q) : a * q + b < p * q := by
  have : (a + 1) * q ≤ p * q := Nat.mul_le_mul_right _ ha
  rw [Nat.succ_mul] at this
  omega

set_option maxRecDepth 100000 in
set_option maxHeartbeats 8000000 in
theorem specBright1 (x y z : Nat) (ba off n cap : Nat) (f : Nat → Int) (hl : n ≤ 1048576) (hq : volB (x : Int) (y : Int) (z : Int) n f = true) (hX : 1 ≤ x ∧ x ≤ 32) (hY : 1 ≤ y ∧ y ≤ 32) (hZ : 1 ≤ z ∧ z ≤ 32) (hnn : n = x * y * z) (w : World) (h : Px (some ⟨ba, off, none⟩) n f w) :
    Calls Try.prog 16 #[vVolume (x : Int) (y : Int) (z : Int) (some ⟨ba, off, none⟩) n cap, .int .i64 1] w (ImR ((y : Nat) : Int) ((z : Nat) : Int) (z * y) (brF f x 1 y x (x * y)) w) := by
  have HS0 := hide (((St.start w).box [.int .i64 (x : Int), .int .i64 (y : Int), .int .i64 (z : Int), .slice (some ⟨ba, off, none⟩) n cap] 29).box' [.int .i64 0, .int .i64 0, .slice none 0 0] 40 (b := w.heap.size + 1) (by simp))
  have c := specVolumeOk_any x y z (some ⟨ba, off, none⟩) n cap f hl _ (h.below HS0.out.below)
  rw [hq] at c
  have cI := l1In_any 1 1 3
  rw [show inB 1 1 3 = true by decide] at cI
  obtain ⟨N1, hN1⟩ : ∃ N, N = y * x := ⟨_, rfl⟩
  obtain ⟨N, hN⟩ : ∃ N, N = z * y := ⟨_, rfl⟩
  have hNb1 : N1 ≤ 1024 := by rw [hN1]; exact Nat.mul_le_mul hY.2 hX.2
  have hNb : N ≤ 1024 := by rw [hN]; exact Nat.mul_le_mul hZ.2 hY.2
  have hNp : 0 < N := by rw [hN]; exact Nat.mul_pos hZ.1 hY.1
  have cN1 := l2New_any (x : Int) (y : Int) N1 (by rw [hN1, Int.natCast_mul, Int.mul_comm]) (by omega)
  have cN := l2New_any (y : Int) (z : Int) N (by rw [hN, Int.natCast_mul, Int.mul_comm]) (by omega)
  obtain ⟨at', hat⟩ : ∃ at' : Nat → Nat, at' = (fun j => j / x / y * y + j / x % y) := ⟨_, rfl⟩
  have HFIN : Hid (∀ q, q < N → scK f at' n q = brF f x 1 y x (x * y) q) := by
    intro q hq'
    rw [hat, hnn]
    exact br1 f (by omega) (by omega) (by rw [hN] at hq'; rw [Nat.mul_comm]; exact hq')
  have HAT := hide hat
  have HNN := hide hnn
  have HN := hide hN
  have HN1 := hide hN1
  have HP := hide h
  have hx0 : (x : Int) ≠ 0 := by omega
  have hy0 : (y : Int) ≠ 0 := by omega
  obtain ⟨i0, i1, i2, i3⟩ := HS0.out.im4 1 rfl
  rw [← hN]
  generalize (brF f x 1 y x (x * y)) = BR at *
  clear h hq hnn hN hN1 hat
  go_enter Try.func16, Try.ntmps16
  go_wp2_with fail
  refine c.mono ?_
  rintro e w1 ⟨rfl, hb⟩
  have HS1 := hide (HS0.out.next hb)
  clear c hb HS0 i0 i1 i2 i3
  go_wp2_with fail
  refine (cI _).mono ?_
  rintro e w2 ⟨rfl, rfl⟩
  clear cI
  obtain ⟨i0, i1, i2, i3⟩ := HS1.out.im4 1 rfl
  go_wp2_with fail
  refine (cN1 _).mono ?_
  rintro e w3 ⟨rfl, hr, hb, hs⟩
  have HS3 := hide ((HS1.out.own hb hr.v (.inr (by omega))).box [.int .i64 (x : Int), .int .i64 (y : Int), .slice (some ⟨w2.heap.size + 1, 0, none⟩) N1 N1] 40)
  generalize hB : w2.heap.size + 1 = B1 at *
  clear cN1 hr hb hs HS1 i0 i1 i2 i3
  have HS4 := hide (HS3.out.sub (O' := []) (List.Sublist.refl _) (List.nil_sublist _))
  obtain ⟨i0, i1, i2, i3⟩ := HS4.out.im4 2 rfl
  clear HS3
  go_upto_region 6 with fail
  generalize hx : World.alloc w3 (.cells [.int .i64 (x : Int), .int .i64 (y : Int), .slice (some ⟨B1, 0, none⟩) N1 N1].toArray 40) = w4 at HS4 i0 i1 i2 i3
  have hy' : World.alloc w3 (.cells #[.int .i64 (x : Int), .int .i64 (y : Int), .slice (some ⟨B1, 0, none⟩) N1 N1] 40) = w4 := hx
  try rw [hy']
  clear hx hy' hB
  generalize w3.heap.size = C at *
  go_wp2_with fail
  refine (cN _).mono ?_
  rintro e w5 ⟨rfl, hr, hb, hs⟩
  have HS5 := hide (HS4.out.own hb hr.v (.inr (by omega)))
  generalize hB : w4.heap.size + 1 = BL at *
  clear cN hr hb hs HS4 i0 i1 i2 i3
  obtain ⟨f0, f1, f2⟩ := HS5.out.fr3 0 rfl
  obtain ⟨j0, j1, j2⟩ := HS5.out.im3 0 rfl
  have HS6 := hide (HS5.out.fill3 (.int .i64 (y : Int)) (.int .i64 (z : Int)) (.slice (some ⟨BL, 0, none⟩) N N))
  clear HS5
  go_wp2_with fail
  generalize (((w5.setCell ⟨C, 0, none⟩ (.int .i64 (y : Int))).setCell ⟨C, 1, none⟩ (.int .i64 (z : Int))).setCell ⟨C, 2, none⟩ (.slice (some ⟨BL, 0, none⟩) N N)) = w6 at *
  clear f0 f1 f2 j0 j1 j2 hB
  have HS7 := hide (St.cg0 HS6.out (by omega) (g := lowK 0) (fun q _ => by unfold lowK; rw [if_neg (by omega)]))
  clear HS6
  go_loopw [6] (fun i wr => ∃ k : Nat, k ≤ N ∧ i = .int .i64 k ∧ St w [(C, [.int .i64 (y : Int), .int .i64 (z : Int), .slice (some ⟨BL, 0, none⟩) N N]), (w.heap.size + 1, [.int .i64 0, .int .i64 0, .slice none 0 0]), (w.heap.size, [.int .i64 (x : Int), .int .i64 (y : Int), .int .i64 (z : Int), .slice (some ⟨ba, off, none⟩) n cap])] [(some ⟨BL, 0, none⟩, BL, N, fun q => .int .i64 (lowK k q))] wr) (fun i _ => N - (intOf i).toNat)
  case atStart => exact ⟨0, Nat.zero_le _, rfl, HS7.out⟩
  case round =>
    obtain ⟨k, hk, rfl, hst⟩ := hrel
    have HS := hide hst
    clear hst HS7
    by_cases hlt : k < N
    · obtain ⟨l0, l1, l2⟩ := HS.out.im3 0 rfl
      obtain ⟨c0, g0⟩ := HS.out.atO hlt
      have hup := HS.out.upd hlt (-4095)
      rw [show updN (lowK k) k (-4095) = lowK (k + 1) from funext (lowK_step k)] at hup
      have HU := hide hup
      clear HS hup
      go_wp2_with fail
      exact ⟨⟨k + 1, by omega, rfl, HU.out⟩, by simp [intOf]; omega⟩
    · obtain rfl : k = N := by omega
      obtain ⟨wo, hwo⟩ : ∃ wo, wo = wr := ⟨_, rfl⟩
      subst hwo
      have HS8 := hide (St.cg0 HS.out (by omega) (g := scK f at' 0) (fun q hq => by unfold lowK; rw [if_pos hq]; rfl))
      obtain ⟨l0, l1, l2⟩ := HS.out.im3 0 rfl
      clear HS hlt
      go_wp2_with fail
      clear l0 l1 l2
      go_loopw [7] (fun i wr => ∃ t : Nat, t ≤ n ∧ i = .int .i64 t ∧ St w [(C, [.int .i64 (y : Int), .int .i64 (z : Int), .slice (some ⟨BL, 0, none⟩) k k]), (w.heap.size + 1, [.int .i64 0, .int .i64 0, .slice none 0 0]), (w.heap.size, [.int .i64 (x : Int), .int .i64 (y : Int), .int .i64 (z : Int), .slice (some ⟨ba, off, none⟩) n cap])] [(some ⟨BL, 0, none⟩, BL, k, fun q => .int .i64 (scK f at' t q))] wr) (fun i _ => n - (intOf i).toNat)
      case atStart => exact ⟨0, Nat.zero_le _, rfl, HS8.out⟩
      case round =>
        obtain ⟨t, hj, rfl, hst⟩ := hrel
        have HS := hide hst
        clear hst HS8
        by_cases hlj : t < n
        · obtain ⟨i0, i1, i2, i3⟩ := HS.out.im4 2 rfl
          obtain ⟨l0, l1, l2⟩ := HS.out.im3 0 rfl
          have hk3 := pos3 (x := x) (y := y) (z := z) (k := t) (by omega) (by omega) (by rw [← HNN.out]; exact hlj)
          have hQj := Nat.div_le_self t x
          have hAj : at' t = t / x / y * y + t / x % y := by rw [HAT.out]
          obtain ⟨A, hA⟩ : ∃ A, A = t % x := ⟨_, rfl⟩
          obtain ⟨Q, hQ⟩ : ∃ Q, Q = t / x := ⟨_, rfl⟩
          obtain ⟨B, hB⟩ : ∃ B, B = Q % y := ⟨_, rfl⟩
          obtain ⟨D, hD⟩ : ∃ D, D = Q / y := ⟨_, rfl⟩
          have t1 : (t : Int).tmod (x : Int) = (A : Int) := by rw [hA]; rfl
          have t2 : (t : Int).tdiv (x : Int) = (Q : Int) := by rw [hQ]; rfl
          have t3 : (Q : Int).tmod (y : Int) = (B : Int) := by rw [hB]; rfl
          have t4 : (Q : Int).tdiv (y : Int) = (D : Int) := by rw [hD]; rfl
          have hDQ : D ≤ Q := by rw [hD]; exact Nat.div_le_self Q y
          rw [← hQ, ← hB, ← hD, ← hA] at hk3
          rw [← hQ] at hQj
          rw [← hQ] at hAj
          rw [← hD, ← hB] at hAj
          have wQ : IntKind.i64.wrap (Q : Int) = (Q : Int) := by rw [IntKind.wrap_i64]; omega
          have wD : IntKind.i64.wrap (D : Int) = (D : Int) := by rw [IntKind.wrap_i64]; omega
          have mU1 : B * y ≤ 32 * 32 := Nat.mul_le_mul (by omega) (by omega)
          have mU2 : D * y ≤ 32 * 32 := Nat.mul_le_mul (by omega) (by omega)
          obtain ⟨U1, hU1⟩ : ∃ U, U = B * y := ⟨_, rfl⟩
          obtain ⟨U2, hU2⟩ : ∃ U, U = D * y := ⟨_, rfl⟩
          obtain ⟨E, hE⟩ : ∃ E, E = U2 + B := ⟨_, rfl⟩
          have hEN : E < k := by rw [HN.out, hE, hU2]; exact lt2 (by omega) (by omega)
          have wU1 : IntKind.i64.wrap ((B : Int) * (y : Int)) = (U1 : Int) := by rw [IntKind.wrap_i64, ← Int.natCast_mul, ← hU1]; omega
          have wU2 : IntKind.i64.wrap ((D : Int) * (y : Int)) = (U2 : Int) := by rw [IntKind.wrap_i64, ← Int.natCast_mul, ← hU2]; omega
          obtain ⟨V1, hV1⟩ : ∃ V, V = U1 + A := ⟨_, rfl⟩
          have wV1 : IntKind.i64.wrap ((U1 : Int) + (A : Int)) = (V1 : Int) := by rw [IntKind.wrap_i64]; omega
          have wE : IntKind.i64.wrap ((U2 : Int) + (B : Int)) = (E : Int) := by rw [IntKind.wrap_i64]; omega
          rw [← hU2, ← hE] at hAj
          obtain ⟨_, _, heq, hv⟩ := (HP.out.below HS.out.below).at hlj
          cases heq
          have HAJ := hide hAj
          have HEN := hide hEN
          clear hk3 hQj hA hQ hB hD hDQ mU1 mU2 hU1 hU2 hE hEN hAj hV1
          have HDR := hide (fun d => HS.out.next (below_drewN (Below.refl _ _) d))
          go_upto_region 17 with fail
          go_quiet (fail)
          have HSp := hide (HDR.out nq)
          clear HDR HS i0 i1 i2 i3 l0 l1 l2
          have hbp := below_drewN (Below.refl wr.heap.size wr) nq
          rw [← hbp.cell (p := ⟨ba, off + t, none⟩) (World.block_lt_of_cell? _ _ hv)] at hv
          clear hbp
          generalize wr.drewN nq = wp at *
          have HDR := hide (fun d => HSp.out.next (below_drewN (Below.refl _ _) d))
          obtain ⟨i0, i1, i2, i3⟩ := HSp.out.im4 2 rfl
          go_upto_region 18 with fail
          go_quiet (fail)
          have HSq := hide (HDR.out nq)
          clear HDR HSp i0 i1 i2 i3
          have hbp := below_drewN (Below.refl wp.heap.size wp) nq
          rw [← hbp.cell (p := ⟨ba, off + t, none⟩) (World.block_lt_of_cell? _ _ hv)] at hv
          clear hbp
          generalize wp.drewN nq = wq at *
          obtain ⟨i0, i1, i2, i3⟩ := HSq.out.im4 2 rfl
          obtain ⟨l0, l1, l2⟩ := HSq.out.im3 0 rfl
          go_upto_region 25 with fail
          obtain ⟨hxl, hxf⟩ := HSq.out.atO HEN.out
          have hup := HSq.out.drew.upd HEN.out (max (scK f at' t E) (f t))
          have e : updN (scK f at' t) E (max (scK f at' t E) (f t)) = scK f at' (t + 1) := by
            funext q
            rw [← HAJ.out]
            rfl
          rw [e] at hup
          obtain ⟨O1, hO1⟩ : ∃ O1, scK f at' t E = O1 := ⟨_, rfl⟩
          obtain ⟨X1, hX1⟩ : ∃ X1, f t = X1 := ⟨_, rfl⟩
          obtain ⟨Y1, hY1⟩ : ∃ Y1, max O1 X1 = Y1 := ⟨_, rfl⟩
          rw [hO1, hX1, hY1] at hup
          rw [hO1] at hxl
          rw [hX1] at hv
          have cM : ∀ w', Calls Try.prog 38 #[.int .i64 O1, .int .i64 X1] w' fun e w'' => e = .returned (.int .i64 Y1) ∧ w'' = w' := fun w' => by rw [← hY1]; exact l1Max_any O1 X1 w'
          have HUP := hide hup
          have HXL := hide hxl
          have HXF := hide hxf
          have HXG := hide hv
          have HI3 := hide i3
          have HL2 := hide l2
          have HLJ := hide hlj
          clear hup hxl hxf hv i0 i1 i2 i3 l0 l1 l2 HSq e hO1 hX1 hY1 HAJ
          have hEN := HEN.out
          clear HEN
          obtain ⟨G, hG⟩ : ∃ G : Nat → Value → Prop, G = (fun j v => match j with | 0 => v = .pointer (some ⟨C, 2, none⟩) | 1 => v = .slice (some ⟨BL, 0, none⟩) k k | 2 => v = .int .i64 (E : Int) | 3 => v = .pointer (some ⟨C, 2, none⟩) | 4 => v = .slice (some ⟨BL, 0, none⟩) k k | 5 => v = .int .i64 (E : Int) | 6 => v = .pointer (some ⟨BL, E, none⟩) | 7 => v = .int .i64 O1 | 8 => v = .pointer (some ⟨w.heap.size, 3, none⟩) | 9 => v = .slice (some ⟨ba, off, none⟩) n cap | 10 => v = .int .i64 (t : Int) | 11 => v = .pointer (some ⟨ba, off + t, none⟩) | 12 => v = .int .i64 X1 | 13 => v = .int .i64 Y1 | 14 => v = .pointer (some ⟨BL, E, none⟩) | _ => True) := ⟨_, rfl⟩
          have G0 : Hid (∀ v, G 0 v ↔ v = .pointer (some ⟨C, 2, none⟩)) := fun v => by rw [hG]; exact Iff.rfl
          have G1 : Hid (∀ v, G 1 v ↔ v = .slice (some ⟨BL, 0, none⟩) k k) := fun v => by rw [hG]; exact Iff.rfl
          have G2 : Hid (∀ v, G 2 v ↔ v = .int .i64 (E : Int)) := fun v => by rw [hG]; exact Iff.rfl
          have G3 : Hid (∀ v, G 3 v ↔ v = .pointer (some ⟨C, 2, none⟩)) := fun v => by rw [hG]; exact Iff.rfl
          have G4 : Hid (∀ v, G 4 v ↔ v = .slice (some ⟨BL, 0, none⟩) k k) := fun v => by rw [hG]; exact Iff.rfl
          have G5 : Hid (∀ v, G 5 v ↔ v = .int .i64 (E : Int)) := fun v => by rw [hG]; exact Iff.rfl
          have G6 : Hid (∀ v, G 6 v ↔ v = .pointer (some ⟨BL, E, none⟩)) := fun v => by rw [hG]; exact Iff.rfl
          have G7 : Hid (∀ v, G 7 v ↔ v = .int .i64 O1) := fun v => by rw [hG]; exact Iff.rfl
          have G8 : Hid (∀ v, G 8 v ↔ v = .pointer (some ⟨w.heap.size, 3, none⟩)) := fun v => by rw [hG]; exact Iff.rfl
          have G9 : Hid (∀ v, G 9 v ↔ v = .slice (some ⟨ba, off, none⟩) n cap) := fun v => by rw [hG]; exact Iff.rfl
          have G10 : Hid (∀ v, G 10 v ↔ v = .int .i64 (t : Int)) := fun v => by rw [hG]; exact Iff.rfl
          have G11 : Hid (∀ v, G 11 v ↔ v = .pointer (some ⟨ba, off + t, none⟩)) := fun v => by rw [hG]; exact Iff.rfl
          have G12 : Hid (∀ v, G 12 v ↔ v = .int .i64 X1) := fun v => by rw [hG]; exact Iff.rfl
          have G13 : Hid (∀ v, G 13 v ↔ v = .int .i64 Y1) := fun v => by rw [hG]; exact Iff.rfl
          have G14 : Hid (∀ v, G 14 v ↔ v = .pointer (some ⟨BL, E, none⟩)) := fun v => by rw [hG]; exact Iff.rfl
          have G15 : Hid (∀ v, G 15 v) := fun v => by rw [hG]; trivial
          clear hG
          obtain ⟨PP, hPP⟩ : ∃ P : World → Prop, P = (fun wx => wx = wq.drew.setCell ⟨BL, E, none⟩ (.int .i64 Y1)) := ⟨_, rfl⟩
          refine region_opsV (sR 15 wq) (sF 15 G PP) (by kernel_rfl) (by kernel_rfl) (by kernel_rfl) (by kernel_rfl) (fun _ => rfl) ?_ ?_
          · refine ⟨?_, ?_, ?_, ?_, ?_, ?_, ?_, ?_, ?_, ?_, ?_, ?_, ?_, ?_, ?_, ?_, trivial⟩
            ·
              intro u w21 au hsl hel hu hF hp' K hK
              have t5 : au.tmps[5]?.getD undef = .pointer (some ⟨C, 0, none⟩) := (hel.out 5 (by kernel_rfl)).trans (by kernel_rfl)
              refine step_plain rfl ?_
              go_simp
              exact hK.out (.pointer (some ⟨C, 2, none⟩)) _ (sR_up hF 0 (by omega) _) (sF_val 0 (by omega) ((G0.out _).2 rfl)) (fun j hj hf h => sF_up 0 _ j hj (fun e => by subst e; exact absurd (Eq.trans (Eq.symm (by kernel_rfl)) hf) Bool.false_ne_true) h)
            ·
              intro u w21 au hsl hel hu hF hp' K hK
              have h0 : u 0 = .pointer (some ⟨C, 2, none⟩) := (G0.out _).1 (PreF.get hp' 0 (by kernel_rfl)).1
              have t100 : au.tmps[100]?.getD undef = u 0 := hsl.out 0 100 (by kernel_rfl)
              rw [h0] at t100
              have hw : w21 = wq.drew := hF ((hu.out 15 (by decide) (.inr (by kernel_rfl))).trans (by kernel_rfl))
              have xc : w21.cell? ⟨C, 2, none⟩ = some (.slice (some ⟨BL, 0, none⟩) k k) := by rw [hw]; exact HL2.out
              clear hw
              refine step_plain rfl ?_
              go_simp
              exact hK.out (.slice (some ⟨BL, 0, none⟩) k k) _ (sR_up hF 1 (by omega) _) (sF_val 1 (by omega) ((G1.out _).2 rfl)) (fun j hj hf h => sF_up 1 _ j hj (fun e => by subst e; exact absurd (Eq.trans (Eq.symm (by kernel_rfl)) hf) Bool.false_ne_true) h)
            ·
              intro u w21 au hsl hel hu hF hp' K hK
              have t11 : au.tmps[11]?.getD undef = .int .i64 (E : Int) := (hel.out 11 (by kernel_rfl)).trans (by kernel_rfl)
              refine step_plain rfl ?_
              go_simp
              exact hK.out (.int .i64 (E : Int)) _ (sR_up hF 2 (by omega) _) (sF_val 2 (by omega) ((G2.out _).2 rfl)) (fun j hj hf h => sF_up 2 _ j hj (fun e => by subst e; exact absurd (Eq.trans (Eq.symm (by kernel_rfl)) hf) Bool.false_ne_true) h)
            ·
              intro u w21 au hsl hel hu hF hp' K hK
              have t5 : au.tmps[5]?.getD undef = .pointer (some ⟨C, 0, none⟩) := (hel.out 5 (by kernel_rfl)).trans (by kernel_rfl)
              refine step_plain rfl ?_
              go_simp
              exact hK.out (.pointer (some ⟨C, 2, none⟩)) _ (sR_up hF 3 (by omega) _) (sF_val 3 (by omega) ((G3.out _).2 rfl)) (fun j hj hf h => sF_up 3 _ j hj (fun e => by subst e; exact absurd (Eq.trans (Eq.symm (by kernel_rfl)) hf) Bool.false_ne_true) h)
            ·
              intro u w21 au hsl hel hu hF hp' K hK
              have h3 : u 3 = .pointer (some ⟨C, 2, none⟩) := (G3.out _).1 (PreF.get hp' 3 (by kernel_rfl)).1
              have t103 : au.tmps[103]?.getD undef = u 3 := hsl.out 3 103 (by kernel_rfl)
              rw [h3] at t103
              have hw : w21 = wq.drew := hF ((hu.out 15 (by decide) (.inr (by kernel_rfl))).trans (by kernel_rfl))
              have xc : w21.cell? ⟨C, 2, none⟩ = some (.slice (some ⟨BL, 0, none⟩) k k) := by rw [hw]; exact HL2.out
              clear hw
              refine step_plain rfl ?_
              go_simp
              exact hK.out (.slice (some ⟨BL, 0, none⟩) k k) _ (sR_up hF 4 (by omega) _) (sF_val 4 (by omega) ((G4.out _).2 rfl)) (fun j hj hf h => sF_up 4 _ j hj (fun e => by subst e; exact absurd (Eq.trans (Eq.symm (by kernel_rfl)) hf) Bool.false_ne_true) h)
            ·
              intro u w21 au hsl hel hu hF hp' K hK
              have t11 : au.tmps[11]?.getD undef = .int .i64 (E : Int) := (hel.out 11 (by kernel_rfl)).trans (by kernel_rfl)
              refine step_plain rfl ?_
              go_simp
              exact hK.out (.int .i64 (E : Int)) _ (sR_up hF 5 (by omega) _) (sF_val 5 (by omega) ((G5.out _).2 rfl)) (fun j hj hf h => sF_up 5 _ j hj (fun e => by subst e; exact absurd (Eq.trans (Eq.symm (by kernel_rfl)) hf) Bool.false_ne_true) h)
            ·
              intro u w21 au hsl hel hu hF hp' K hK
              have h4 : u 4 = .slice (some ⟨BL, 0, none⟩) k k := (G4.out _).1 (PreF.get hp' 4 (by kernel_rfl)).1
              have t104 : au.tmps[104]?.getD undef = u 4 := hsl.out 4 104 (by kernel_rfl)
              rw [h4] at t104
              have h5 : u 5 = .int .i64 (E : Int) := (G5.out _).1 (PreF.get hp' 5 (by kernel_rfl)).1
              have t105 : au.tmps[105]?.getD undef = u 5 := hsl.out 5 105 (by kernel_rfl)
              rw [h5] at t105
              refine step_plain rfl ?_
              go_simp
              exact hK.out (.pointer (some ⟨BL, E, none⟩)) _ (sR_up hF 6 (by omega) _) (sF_val 6 (by omega) ((G6.out _).2 rfl)) (fun j hj hf h => sF_up 6 _ j hj (fun e => by subst e; exact absurd (Eq.trans (Eq.symm (by kernel_rfl)) hf) Bool.false_ne_true) h)
            ·
              intro u w21 au hsl hel hu hF hp' K hK
              have h6 : u 6 = .pointer (some ⟨BL, E, none⟩) := (G6.out _).1 (PreF.get hp' 6 (by kernel_rfl)).1
              have t106 : au.tmps[106]?.getD undef = u 6 := hsl.out 6 106 (by kernel_rfl)
              rw [h6] at t106
              have hw : w21 = wq.drew := hF ((hu.out 15 (by decide) (.inr (by kernel_rfl))).trans (by kernel_rfl))
              have xc : w21.cell? ⟨BL, E, none⟩ = some (.int .i64 O1) := by rw [hw]; exact HXL.out
              clear hw
              refine step_plain rfl ?_
              go_simp
              exact hK.out (.int .i64 O1) _ (sR_up hF 7 (by omega) _) (sF_val 7 (by omega) ((G7.out _).2 rfl)) (fun j hj hf h => sF_up 7 _ j hj (fun e => by subst e; exact absurd (Eq.trans (Eq.symm (by kernel_rfl)) hf) Bool.false_ne_true) h)
            ·
              intro u w21 au hsl hel hu hF hp' K hK
              have t2 : au.tmps[2]?.getD undef = .pointer (some ⟨w.heap.size, 0, none⟩) := (hel.out 2 (by kernel_rfl)).trans (by kernel_rfl)
              refine step_plain rfl ?_
              go_simp
              exact hK.out (.pointer (some ⟨w.heap.size, 3, none⟩)) _ (sR_up hF 8 (by omega) _) (sF_val 8 (by omega) ((G8.out _).2 rfl)) (fun j hj hf h => sF_up 8 _ j hj (fun e => by subst e; exact absurd (Eq.trans (Eq.symm (by kernel_rfl)) hf) Bool.false_ne_true) h)
            ·
              intro u w21 au hsl hel hu hF hp' K hK
              have h8 : u 8 = .pointer (some ⟨w.heap.size, 3, none⟩) := (G8.out _).1 (PreF.get hp' 8 (by kernel_rfl)).1
              have t108 : au.tmps[108]?.getD undef = u 8 := hsl.out 8 108 (by kernel_rfl)
              rw [h8] at t108
              have hw : w21 = wq.drew := hF ((hu.out 15 (by decide) (.inr (by kernel_rfl))).trans (by kernel_rfl))
              have xc : w21.cell? ⟨w.heap.size, 3, none⟩ = some (.slice (some ⟨ba, off, none⟩) n cap) := by rw [hw]; exact HI3.out
              clear hw
              refine step_plain rfl ?_
              go_simp
              exact hK.out (.slice (some ⟨ba, off, none⟩) n cap) _ (sR_up hF 9 (by omega) _) (sF_val 9 (by omega) ((G9.out _).2 rfl)) (fun j hj hf h => sF_up 9 _ j hj (fun e => by subst e; exact absurd (Eq.trans (Eq.symm (by kernel_rfl)) hf) Bool.false_ne_true) h)
            ·
              intro u w21 au hsl hel hu hF hp' K hK
              have t7 : au.tmps[7]?.getD undef = .int .i64 (t : Int) := (hel.out 7 (by kernel_rfl)).trans (by kernel_rfl)
              refine step_plain rfl ?_
              go_simp
              exact hK.out (.int .i64 (t : Int)) _ (sR_up hF 10 (by omega) _) (sF_val 10 (by omega) ((G10.out _).2 rfl)) (fun j hj hf h => sF_up 10 _ j hj (fun e => by subst e; exact absurd (Eq.trans (Eq.symm (by kernel_rfl)) hf) Bool.false_ne_true) h)
            ·
              intro u w21 au hsl hel hu hF hp' K hK
              have h9 : u 9 = .slice (some ⟨ba, off, none⟩) n cap := (G9.out _).1 (PreF.get hp' 9 (by kernel_rfl)).1
              have t109 : au.tmps[109]?.getD undef = u 9 := hsl.out 9 109 (by kernel_rfl)
              rw [h9] at t109
              have h10 : u 10 = .int .i64 (t : Int) := (G10.out _).1 (PreF.get hp' 10 (by kernel_rfl)).1
              have t110 : au.tmps[110]?.getD undef = u 10 := hsl.out 10 110 (by kernel_rfl)
              rw [h10] at t110
              refine step_plain rfl ?_
              go_simp
              exact hK.out (.pointer (some ⟨ba, off + t, none⟩)) _ (sR_up hF 11 (by omega) _) (sF_val 11 (by omega) ((G11.out _).2 rfl)) (fun j hj hf h => sF_up 11 _ j hj (fun e => by subst e; exact absurd (Eq.trans (Eq.symm (by kernel_rfl)) hf) Bool.false_ne_true) h)
            ·
              intro u w21 au hsl hel hu hF hp' K hK
              have h11 : u 11 = .pointer (some ⟨ba, off + t, none⟩) := (G11.out _).1 (PreF.get hp' 11 (by kernel_rfl)).1
              have t111 : au.tmps[111]?.getD undef = u 11 := hsl.out 11 111 (by kernel_rfl)
              rw [h11] at t111
              have hw : w21 = wq.drew := hF ((hu.out 15 (by decide) (.inr (by kernel_rfl))).trans (by kernel_rfl))
              have xc : w21.cell? ⟨ba, off + t, none⟩ = some (.int .i64 X1) := by rw [hw]; exact HXG.out
              clear hw
              refine step_plain rfl ?_
              go_simp
              exact hK.out (.int .i64 X1) _ (sR_up hF 12 (by omega) _) (sF_val 12 (by omega) ((G12.out _).2 rfl)) (fun j hj hf h => sF_up 12 _ j hj (fun e => by subst e; exact absurd (Eq.trans (Eq.symm (by kernel_rfl)) hf) Bool.false_ne_true) h)
            ·
              intro u w21 au hsl hel hu hF hp' K hK
              have h7 : u 7 = .int .i64 O1 := (G7.out _).1 (PreF.get hp' 7 (by kernel_rfl)).1
              have t107 : au.tmps[107]?.getD undef = u 7 := hsl.out 7 107 (by kernel_rfl)
              rw [h7] at t107
              have h12 : u 12 = .int .i64 X1 := (G12.out _).1 (PreF.get hp' 12 (by kernel_rfl)).1
              have t112 : au.tmps[112]?.getD undef = u 12 := hsl.out 12 112 (by kernel_rfl)
              rw [h12] at t112
              refine step_plain rfl ?_
              go_simp
              refine (cM w21).mono ?_
              rintro e w22 ⟨rfl, rfl⟩
              exact hK.out (.int .i64 Y1) _ (sR_up hF 13 (by omega) _) (sF_val 13 (by omega) ((G13.out _).2 rfl)) (fun j hj hf h => sF_up 13 _ j hj (fun e => by subst e; exact absurd (Eq.trans (Eq.symm (by kernel_rfl)) hf) Bool.false_ne_true) h)
            ·
              intro u w21 au hsl hel hu hF hp' K hK
              have h1 : u 1 = .slice (some ⟨BL, 0, none⟩) k k := (G1.out _).1 (PreF.get hp' 1 (by kernel_rfl)).1
              have t101 : au.tmps[101]?.getD undef = u 1 := hsl.out 1 101 (by kernel_rfl)
              rw [h1] at t101
              have h2 : u 2 = .int .i64 (E : Int) := (G2.out _).1 (PreF.get hp' 2 (by kernel_rfl)).1
              have t102 : au.tmps[102]?.getD undef = u 2 := hsl.out 2 102 (by kernel_rfl)
              rw [h2] at t102
              refine step_plain rfl ?_
              go_simp
              exact hK.out (.pointer (some ⟨BL, E, none⟩)) _ (sR_up hF 14 (by omega) _) (sF_val 14 (by omega) ((G14.out _).2 rfl)) (fun j hj hf h => sF_up 14 _ j hj (fun e => by subst e; exact absurd (Eq.trans (Eq.symm (by kernel_rfl)) hf) Bool.false_ne_true) h)
            ·
              intro u w21 au hsl hel hu hF hp' K hK
              have h14 : u 14 = .pointer (some ⟨BL, E, none⟩) := (G14.out _).1 (PreF.get hp' 14 (by kernel_rfl)).1
              have t114 : au.tmps[114]?.getD undef = u 14 := hsl.out 14 114 (by kernel_rfl)
              rw [h14] at t114
              have h13 : u 13 = .int .i64 Y1 := (G13.out _).1 (PreF.get hp' 13 (by kernel_rfl)).1
              have t113 : au.tmps[113]?.getD undef = u 13 := hsl.out 13 113 (by kernel_rfl)
              rw [h13] at t113
              have hw : w21 = wq.drew := hF ((hu.out 15 (by decide) (.inl rfl)).trans (by kernel_rfl))
              have xc : w21.cell? ⟨BL, E, none⟩ = some (.int .i64 O1) := by rw [hw]; exact HXL.out
              have xf : w21.frozen? ⟨BL, E, none⟩ = false := by rw [hw]; exact HXF.out
              have HW21 := hide hw
              clear hw
              refine step_plain rfl ?_
              go_simp
              exact hK.out (.bool true) _ (sR_st (by simp [undef])) (sF_st (G15.out _) (by rw [hPP, HW21.out])) (fun j hj _ h => sF_keep _ j hj h)
          · intro u w30 hF hall
            have hp := (hall 15 (by decide)).2 rfl
            rw [hPP] at hp
            have HE := hide hp
            clear hF hall hp
            simp only [rgPut, Act.put]
            go_simp
            have HL := hide HUP.out
            rw [← HE.out] at HL
            clear HUP HE
            have hlj := HLJ.out
            go_wp2_with fail
            exact ⟨⟨t + 1, by omega, rfl, HL.out⟩, by simp [intOf]; omega⟩
        · obtain rfl : t = n := by omega
          have HS9 := hide (St.cg0 HS.out (by omega) (g := BR) (fun q hq => HFIN.out q hq))
          obtain ⟨i0, i1, i2, i3⟩ := HS.out.im4 2 rfl
          obtain ⟨l0, l1, l2⟩ := HS.out.im3 0 rfl
          obtain ⟨o0, o1, o2⟩ := HS.out.im3 1 rfl
          obtain ⟨f0, f1, f2⟩ := HS.out.fr3 1 rfl
          have HZ := hide (St.fill3' (L1 := [_]) HS9.out (.int .i64 (y : Int)) (.int .i64 (z : Int)) (.slice (some ⟨BL, 0, none⟩) k k))
          obtain ⟨wz, hz⟩ : ∃ wz, ((wr.setCell ⟨w.heap.size + 1, 0, none⟩ (.int .i64 (y : Int))).setCell ⟨w.heap.size + 1, 1, none⟩ (.int .i64 (z : Int))).setCell ⟨w.heap.size + 1, 2, none⟩ (.slice (some ⟨BL, 0, none⟩) k k) = wz := ⟨_, rfl⟩
          rw [hz] at HZ
          obtain ⟨z0, z1, z2⟩ := HZ.out.im3 1 rfl
          have HE := hide (HZ.out.imR (y : Int) (z : Int) k)
          clear HS HS9 HZ
          go_wp2_with fail
          exact bodyPost_ret (v := im (y : Int) (z : Int) (some ⟨BL, 0, none⟩) k k) (by simp [results, Try.results16, go_sem, z0, z1, z2]) rfl HE.out

set_option maxRecDepth 100000 in
set_option maxHeartbeats 8000000 in
theorem specBright2 (x y z : Nat) (ba off n cap : Nat) (f : Nat → Int) (hl : n ≤ 1048576) (hq : volB (x : Int) (y : Int) (z : Int) n f = true) (hX : 1 ≤ x ∧ x ≤ 32) (hY : 1 ≤ y ∧ y ≤ 32) (hZ : 1 ≤ z ∧ z ≤ 32) (hnn : n = x * y * z) (w : World) (h : Px (some ⟨ba, off, none⟩) n f w) :
    Calls Try.prog 16 #[vVolume (x : Int) (y : Int) (z : Int) (some ⟨ba, off, none⟩) n cap, .int .i64 2] w (ImR ((x : Nat) : Int) ((z : Nat) : Int) (z * x) (brF f y x x 1 (x * y)) w) := by
  have HS0 := hide (((St.start w).box [.int .i64 (x : Int), .int .i64 (y : Int), .int .i64 (z : Int), .slice (some ⟨ba, off, none⟩) n cap] 29).box' [.int .i64 0, .int .i64 0, .slice none 0 0] 40 (b := w.heap.size + 1) (by simp))
  have c := specVolumeOk_any x y z (some ⟨ba, off, none⟩) n cap f hl _ (h.below HS0.out.below)
  rw [hq] at c
  have cI := l1In_any 2 1 3
  rw [show inB 2 1 3 = true by decide] at cI
  obtain ⟨N1, hN1⟩ : ∃ N, N = y * x := ⟨_, rfl⟩
  obtain ⟨N, hN⟩ : ∃ N, N = z * x := ⟨_, rfl⟩
  have hNb1 : N1 ≤ 1024 := by rw [hN1]; exact Nat.mul_le_mul hY.2 hX.2
  have hNb : N ≤ 1024 := by rw [hN]; exact Nat.mul_le_mul hZ.2 hX.2
  have hNp : 0 < N := by rw [hN]; exact Nat.mul_pos hZ.1 hX.1
  have cN1 := l2New_any (x : Int) (y : Int) N1 (by rw [hN1, Int.natCast_mul, Int.mul_comm]) (by omega)
  have cN := l2New_any (x : Int) (z : Int) N (by rw [hN, Int.natCast_mul, Int.mul_comm]) (by omega)
  obtain ⟨at', hat⟩ : ∃ at' : Nat → Nat, at' = (fun j => j / x / y * x + j % x) := ⟨_, rfl⟩
  have HFIN : Hid (∀ q, q < N → scK f at' n q = brF f y x x 1 (x * y) q) := by
    intro q hq'
    rw [hat, hnn]
    exact br2 f (by omega) (by omega) (by rw [hN] at hq'; rw [Nat.mul_comm]; exact hq')
  have HAT := hide hat
  have HNN := hide hnn
  have HN := hide hN
  have HN1 := hide hN1
  have HP := hide h
  have hx0 : (x : Int) ≠ 0 := by omega
  have hy0 : (y : Int) ≠ 0 := by omega
  obtain ⟨i0, i1, i2, i3⟩ := HS0.out.im4 1 rfl
  rw [← hN]
  generalize (brF f y x x 1 (x * y)) = BR at *
  clear h hq hnn hN hN1 hat
  go_enter Try.func16, Try.ntmps16
  go_wp2_with fail
  refine c.mono ?_
  rintro e w1 ⟨rfl, hb⟩
  have HS1 := hide (HS0.out.next hb)
  clear c hb HS0 i0 i1 i2 i3
  go_wp2_with fail
  refine (cI _).mono ?_
  rintro e w2 ⟨rfl, rfl⟩
  clear cI
  obtain ⟨i0, i1, i2, i3⟩ := HS1.out.im4 1 rfl
  go_wp2_with fail
  refine (cN1 _).mono ?_
  rintro e w3 ⟨rfl, hr, hb, hs⟩
  have HS3 := hide ((HS1.out.own hb hr.v (.inr (by omega))).box [.int .i64 (x : Int), .int .i64 (y : Int), .slice (some ⟨w2.heap.size + 1, 0, none⟩) N1 N1] 40)
  generalize hB : w2.heap.size + 1 = B1 at *
  clear cN1 hr hb hs HS1 i0 i1 i2 i3
  have HS4 := hide (HS3.out.sub (O' := []) (List.Sublist.refl _) (List.nil_sublist _))
  obtain ⟨i0, i1, i2, i3⟩ := HS4.out.im4 2 rfl
  clear HS3
  go_upto_region 8 with fail
  generalize hx : World.alloc w3 (.cells [.int .i64 (x : Int), .int .i64 (y : Int), .slice (some ⟨B1, 0, none⟩) N1 N1].toArray 40) = w4 at HS4 i0 i1 i2 i3
  have hy' : World.alloc w3 (.cells #[.int .i64 (x : Int), .int .i64 (y : Int), .slice (some ⟨B1, 0, none⟩) N1 N1] 40) = w4 := hx
  try rw [hy']
  clear hx hy' hB
  generalize w3.heap.size = C at *
  go_wp2_with fail
  refine (cN _).mono ?_
  rintro e w5 ⟨rfl, hr, hb, hs⟩
  have HS5 := hide (HS4.out.own hb hr.v (.inr (by omega)))
  generalize hB : w4.heap.size + 1 = BL at *
  clear cN hr hb hs HS4 i0 i1 i2 i3
  obtain ⟨f0, f1, f2⟩ := HS5.out.fr3 0 rfl
  obtain ⟨j0, j1, j2⟩ := HS5.out.im3 0 rfl
  have HS6 := hide (HS5.out.fill3 (.int .i64 (x : Int)) (.int .i64 (z : Int)) (.slice (some ⟨BL, 0, none⟩) N N))
  clear HS5
  go_wp2_with fail
  generalize (((w5.setCell ⟨C, 0, none⟩ (.int .i64 (x : Int))).setCell ⟨C, 1, none⟩ (.int .i64 (z : Int))).setCell ⟨C, 2, none⟩ (.slice (some ⟨BL, 0, none⟩) N N)) = w6 at *
  clear f0 f1 f2 j0 j1 j2 hB
  have HS7 := hide (St.cg0 HS6.out (by omega) (g := lowK 0) (fun q _ => by unfold lowK; rw [if_neg (by omega)]))
  clear HS6
  go_loopw [6] (fun i wr => ∃ k : Nat, k ≤ N ∧ i = .int .i64 k ∧ St w [(C, [.int .i64 (x : Int), .int .i64 (z : Int), .slice (some ⟨BL, 0, none⟩) N N]), (w.heap.size + 1, [.int .i64 0, .int .i64 0, .slice none 0 0]), (w.heap.size, [.int .i64 (x : Int), .int .i64 (y : Int), .int .i64 (z : Int), .slice (some ⟨ba, off, none⟩) n cap])] [(some ⟨BL, 0, none⟩, BL, N, fun q => .int .i64 (lowK k q))] wr) (fun i _ => N - (intOf i).toNat)
  case atStart => exact ⟨0, Nat.zero_le _, rfl, HS7.out⟩
  case round =>
    obtain ⟨k, hk, rfl, hst⟩ := hrel
    have HS := hide hst
    clear hst HS7
    by_cases hlt : k < N
    · obtain ⟨l0, l1, l2⟩ := HS.out.im3 0 rfl
      obtain ⟨c0, g0⟩ := HS.out.atO hlt
      have hup := HS.out.upd hlt (-4095)
      rw [show updN (lowK k) k (-4095) = lowK (k + 1) from funext (lowK_step k)] at hup
      have HU := hide hup
      clear HS hup
      go_wp2_with fail
      exact ⟨⟨k + 1, by omega, rfl, HU.out⟩, by simp [intOf]; omega⟩
    · obtain rfl : k = N := by omega
      obtain ⟨wo, hwo⟩ : ∃ wo, wo = wr := ⟨_, rfl⟩
      subst hwo
      have HS8 := hide (St.cg0 HS.out (by omega) (g := scK f at' 0) (fun q hq => by unfold lowK; rw [if_pos hq]; rfl))
      obtain ⟨l0, l1, l2⟩ := HS.out.im3 0 rfl
      clear HS hlt
      go_wp2_with fail
      clear l0 l1 l2
      go_loopw [7] (fun i wr => ∃ t : Nat, t ≤ n ∧ i = .int .i64 t ∧ St w [(C, [.int .i64 (x : Int), .int .i64 (z : Int), .slice (some ⟨BL, 0, none⟩) k k]), (w.heap.size + 1, [.int .i64 0, .int .i64 0, .slice none 0 0]), (w.heap.size, [.int .i64 (x : Int), .int .i64 (y : Int), .int .i64 (z : Int), .slice (some ⟨ba, off, none⟩) n cap])] [(some ⟨BL, 0, none⟩, BL, k, fun q => .int .i64 (scK f at' t q))] wr) (fun i _ => n - (intOf i).toNat)
      case atStart => exact ⟨0, Nat.zero_le _, rfl, HS8.out⟩
      case round =>
        obtain ⟨t, hj, rfl, hst⟩ := hrel
        have HS := hide hst
        clear hst HS8
        by_cases hlj : t < n
        · obtain ⟨i0, i1, i2, i3⟩ := HS.out.im4 2 rfl
          obtain ⟨l0, l1, l2⟩ := HS.out.im3 0 rfl
          have hk3 := pos3 (x := x) (y := y) (z := z) (k := t) (by omega) (by omega) (by rw [← HNN.out]; exact hlj)
          have hQj := Nat.div_le_self t x
          have hAj : at' t = t / x / y * x + t % x := by rw [HAT.out]
          obtain ⟨A, hA⟩ : ∃ A, A = t % x := ⟨_, rfl⟩
          obtain ⟨Q, hQ⟩ : ∃ Q, Q = t / x := ⟨_, rfl⟩
          obtain ⟨B, hB⟩ : ∃ B, B = Q % y := ⟨_, rfl⟩
          obtain ⟨D, hD⟩ : ∃ D, D = Q / y := ⟨_, rfl⟩
          have t1 : (t : Int).tmod (x : Int) = (A : Int) := by rw [hA]; rfl
          have t2 : (t : Int).tdiv (x : Int) = (Q : Int) := by rw [hQ]; rfl
          have t3 : (Q : Int).tmod (y : Int) = (B : Int) := by rw [hB]; rfl
          have t4 : (Q : Int).tdiv (y : Int) = (D : Int) := by rw [hD]; rfl
          have hDQ : D ≤ Q := by rw [hD]; exact Nat.div_le_self Q y
          rw [← hQ, ← hB, ← hD, ← hA] at hk3
          rw [← hQ] at hQj
          rw [← hQ] at hAj
          rw [← hD, ← hA] at hAj
          have wQ : IntKind.i64.wrap (Q : Int) = (Q : Int) := by rw [IntKind.wrap_i64]; omega
          have wD : IntKind.i64.wrap (D : Int) = (D : Int) := by rw [IntKind.wrap_i64]; omega
          have mU1 : B * x ≤ 32 * 32 := Nat.mul_le_mul (by omega) (by omega)
          have mU2 : D * x ≤ 32 * 32 := Nat.mul_le_mul (by omega) (by omega)
          obtain ⟨U1, hU1⟩ : ∃ U, U = B * x := ⟨_, rfl⟩
          obtain ⟨U2, hU2⟩ : ∃ U, U = D * x := ⟨_, rfl⟩
          obtain ⟨E, hE⟩ : ∃ E, E = U2 + A := ⟨_, rfl⟩
          have hEN : E < k := by rw [HN.out, hE, hU2]; exact lt2 (by omega) (by omega)
          have wU1 : IntKind.i64.wrap ((B : Int) * (x : Int)) = (U1 : Int) := by rw [IntKind.wrap_i64, ← Int.natCast_mul, ← hU1]; omega
          have wU2 : IntKind.i64.wrap ((D : Int) * (x : Int)) = (U2 : Int) := by rw [IntKind.wrap_i64, ← Int.natCast_mul, ← hU2]; omega
          obtain ⟨V1, hV1⟩ : ∃ V, V = U1 + A := ⟨_, rfl⟩
          have wV1 : IntKind.i64.wrap ((U1 : Int) + (A : Int)) = (V1 : Int) := by rw [IntKind.wrap_i64]; omega
          have wE : IntKind.i64.wrap ((U2 : Int) + (A : Int)) = (E : Int) := by rw [IntKind.wrap_i64]; omega
          rw [← hU2, ← hE] at hAj
          obtain ⟨_, _, heq, hv⟩ := (HP.out.below HS.out.below).at hlj
          cases heq
          have HAJ := hide hAj
          have HEN := hide hEN
          clear hk3 hQj hA hQ hB hD hDQ mU1 mU2 hU1 hU2 hE hEN hAj hV1
          have HDR := hide (fun d => HS.out.next (below_drewN (Below.refl _ _) d))
          go_upto_region 17 with fail
          go_quiet (fail)
          have HSp := hide (HDR.out nq)
          clear HDR HS i0 i1 i2 i3 l0 l1 l2
          have hbp := below_drewN (Below.refl wr.heap.size wr) nq
          rw [← hbp.cell (p := ⟨ba, off + t, none⟩) (World.block_lt_of_cell? _ _ hv)] at hv
          clear hbp
          generalize wr.drewN nq = wp at *
          have HDR := hide (fun d => HSp.out.next (below_drewN (Below.refl _ _) d))
          obtain ⟨i0, i1, i2, i3⟩ := HSp.out.im4 2 rfl
          go_upto_region 18 with fail
          go_quiet (fail)
          have HSq := hide (HDR.out nq)
          clear HDR HSp i0 i1 i2 i3
          have hbp := below_drewN (Below.refl wp.heap.size wp) nq
          rw [← hbp.cell (p := ⟨ba, off + t, none⟩) (World.block_lt_of_cell? _ _ hv)] at hv
          clear hbp
          generalize wp.drewN nq = wq at *
          obtain ⟨i0, i1, i2, i3⟩ := HSq.out.im4 2 rfl
          obtain ⟨l0, l1, l2⟩ := HSq.out.im3 0 rfl
          go_upto_region 25 with fail
          obtain ⟨hxl, hxf⟩ := HSq.out.atO HEN.out
          have hup := HSq.out.drew.upd HEN.out (max (scK f at' t E) (f t))
          have e : updN (scK f at' t) E (max (scK f at' t E) (f t)) = scK f at' (t + 1) := by
            funext q
            rw [← HAJ.out]
            rfl
          rw [e] at hup
          obtain ⟨O1, hO1⟩ : ∃ O1, scK f at' t E = O1 := ⟨_, rfl⟩
          obtain ⟨X1, hX1⟩ : ∃ X1, f t = X1 := ⟨_, rfl⟩
          obtain ⟨Y1, hY1⟩ : ∃ Y1, max O1 X1 = Y1 := ⟨_, rfl⟩
          rw [hO1, hX1, hY1] at hup
          rw [hO1] at hxl
          rw [hX1] at hv
          have cM : ∀ w', Calls Try.prog 38 #[.int .i64 O1, .int .i64 X1] w' fun e w'' => e = .returned (.int .i64 Y1) ∧ w'' = w' := fun w' => by rw [← hY1]; exact l1Max_any O1 X1 w'
          have HUP := hide hup
          have HXL := hide hxl
          have HXF := hide hxf
          have HXG := hide hv
          have HI3 := hide i3
          have HL2 := hide l2
          have HLJ := hide hlj
          clear hup hxl hxf hv i0 i1 i2 i3 l0 l1 l2 HSq e hO1 hX1 hY1 HAJ
          have hEN := HEN.out
          clear HEN
          obtain ⟨G, hG⟩ : ∃ G : Nat → Value → Prop, G = (fun j v => match j with | 0 => v = .pointer (some ⟨C, 2, none⟩) | 1 => v = .slice (some ⟨BL, 0, none⟩) k k | 2 => v = .int .i64 (E : Int) | 3 => v = .pointer (some ⟨C, 2, none⟩) | 4 => v = .slice (some ⟨BL, 0, none⟩) k k | 5 => v = .int .i64 (E : Int) | 6 => v = .pointer (some ⟨BL, E, none⟩) | 7 => v = .int .i64 O1 | 8 => v = .pointer (some ⟨w.heap.size, 3, none⟩) | 9 => v = .slice (some ⟨ba, off, none⟩) n cap | 10 => v = .int .i64 (t : Int) | 11 => v = .pointer (some ⟨ba, off + t, none⟩) | 12 => v = .int .i64 X1 | 13 => v = .int .i64 Y1 | 14 => v = .pointer (some ⟨BL, E, none⟩) | _ => True) := ⟨_, rfl⟩
          have G0 : Hid (∀ v, G 0 v ↔ v = .pointer (some ⟨C, 2, none⟩)) := fun v => by rw [hG]; exact Iff.rfl
          have G1 : Hid (∀ v, G 1 v ↔ v = .slice (some ⟨BL, 0, none⟩) k k) := fun v => by rw [hG]; exact Iff.rfl
          have G2 : Hid (∀ v, G 2 v ↔ v = .int .i64 (E : Int)) := fun v => by rw [hG]; exact Iff.rfl
          have G3 : Hid (∀ v, G 3 v ↔ v = .pointer (some ⟨C, 2, none⟩)) := fun v => by rw [hG]; exact Iff.rfl
          have G4 : Hid (∀ v, G 4 v ↔ v = .slice (some ⟨BL, 0, none⟩) k k) := fun v => by rw [hG]; exact Iff.rfl
          have G5 : Hid (∀ v, G 5 v ↔ v = .int .i64 (E : Int)) := fun v => by rw [hG]; exact Iff.rfl
          have G6 : Hid (∀ v, G 6 v ↔ v = .pointer (some ⟨BL, E, none⟩)) := fun v => by rw [hG]; exact Iff.rfl
          have G7 : Hid (∀ v, G 7 v ↔ v = .int .i64 O1) := fun v => by rw [hG]; exact Iff.rfl
          have G8 : Hid (∀ v, G 8 v ↔ v = .pointer (some ⟨w.heap.size, 3, none⟩)) := fun v => by rw [hG]; exact Iff.rfl
          have G9 : Hid (∀ v, G 9 v ↔ v = .slice (some ⟨ba, off, none⟩) n cap) := fun v => by rw [hG]; exact Iff.rfl
          have G10 : Hid (∀ v, G 10 v ↔ v = .int .i64 (t : Int)) := fun v => by rw [hG]; exact Iff.rfl
          have G11 : Hid (∀ v, G 11 v ↔ v = .pointer (some ⟨ba, off + t, none⟩)) := fun v => by rw [hG]; exact Iff.rfl
          have G12 : Hid (∀ v, G 12 v ↔ v = .int .i64 X1) := fun v => by rw [hG]; exact Iff.rfl
          have G13 : Hid (∀ v, G 13 v ↔ v = .int .i64 Y1) := fun v => by rw [hG]; exact Iff.rfl
          have G14 : Hid (∀ v, G 14 v ↔ v = .pointer (some ⟨BL, E, none⟩)) := fun v => by rw [hG]; exact Iff.rfl
          have G15 : Hid (∀ v, G 15 v) := fun v => by rw [hG]; trivial
          clear hG
          obtain ⟨PP, hPP⟩ : ∃ P : World → Prop, P = (fun wx => wx = wq.drew.setCell ⟨BL, E, none⟩ (.int .i64 Y1)) := ⟨_, rfl⟩
          refine region_opsV (sR 15 wq) (sF 15 G PP) (by kernel_rfl) (by kernel_rfl) (by kernel_rfl) (by kernel_rfl) (fun _ => rfl) ?_ ?_
          · refine ⟨?_, ?_, ?_, ?_, ?_, ?_, ?_, ?_, ?_, ?_, ?_, ?_, ?_, ?_, ?_, ?_, trivial⟩
            ·
              intro u w21 au hsl hel hu hF hp' K hK
              have t5 : au.tmps[5]?.getD undef = .pointer (some ⟨C, 0, none⟩) := (hel.out 5 (by kernel_rfl)).trans (by kernel_rfl)
              refine step_plain rfl ?_
              go_simp
              exact hK.out (.pointer (some ⟨C, 2, none⟩)) _ (sR_up hF 0 (by omega) _) (sF_val 0 (by omega) ((G0.out _).2 rfl)) (fun j hj hf h => sF_up 0 _ j hj (fun e => by subst e; exact absurd (Eq.trans (Eq.symm (by kernel_rfl)) hf) Bool.false_ne_true) h)
            ·
              intro u w21 au hsl hel hu hF hp' K hK
              have h0 : u 0 = .pointer (some ⟨C, 2, none⟩) := (G0.out _).1 (PreF.get hp' 0 (by kernel_rfl)).1
              have t100 : au.tmps[100]?.getD undef = u 0 := hsl.out 0 100 (by kernel_rfl)
              rw [h0] at t100
              have hw : w21 = wq.drew := hF ((hu.out 15 (by decide) (.inr (by kernel_rfl))).trans (by kernel_rfl))
              have xc : w21.cell? ⟨C, 2, none⟩ = some (.slice (some ⟨BL, 0, none⟩) k k) := by rw [hw]; exact HL2.out
              clear hw
              refine step_plain rfl ?_
              go_simp
              exact hK.out (.slice (some ⟨BL, 0, none⟩) k k) _ (sR_up hF 1 (by omega) _) (sF_val 1 (by omega) ((G1.out _).2 rfl)) (fun j hj hf h => sF_up 1 _ j hj (fun e => by subst e; exact absurd (Eq.trans (Eq.symm (by kernel_rfl)) hf) Bool.false_ne_true) h)
            ·
              intro u w21 au hsl hel hu hF hp' K hK
              have t11 : au.tmps[11]?.getD undef = .int .i64 (E : Int) := (hel.out 11 (by kernel_rfl)).trans (by kernel_rfl)
              refine step_plain rfl ?_
              go_simp
              exact hK.out (.int .i64 (E : Int)) _ (sR_up hF 2 (by omega) _) (sF_val 2 (by omega) ((G2.out _).2 rfl)) (fun j hj hf h => sF_up 2 _ j hj (fun e => by subst e; exact absurd (Eq.trans (Eq.symm (by kernel_rfl)) hf) Bool.false_ne_true) h)
            ·
              intro u w21 au hsl hel hu hF hp' K hK
              have t5 : au.tmps[5]?.getD undef = .pointer (some ⟨C, 0, none⟩) := (hel.out 5 (by kernel_rfl)).trans (by kernel_rfl)
              refine step_plain rfl ?_
              go_simp
              exact hK.out (.pointer (some ⟨C, 2, none⟩)) _ (sR_up hF 3 (by omega) _) (sF_val 3 (by omega) ((G3.out _).2 rfl)) (fun j hj hf h => sF_up 3 _ j hj (fun e => by subst e; exact absurd (Eq.trans (Eq.symm (by kernel_rfl)) hf) Bool.false_ne_true) h)
            ·
              intro u w21 au hsl hel hu hF hp' K hK
              have h3 : u 3 = .pointer (some ⟨C, 2, none⟩) := (G3.out _).1 (PreF.get hp' 3 (by kernel_rfl)).1
              have t103 : au.tmps[103]?.getD undef = u 3 := hsl.out 3 103 (by kernel_rfl)
              rw [h3] at t103
              have hw : w21 = wq.drew := hF ((hu.out 15 (by decide) (.inr (by kernel_rfl))).trans (by kernel_rfl))
              have xc : w21.cell? ⟨C, 2, none⟩ = some (.slice (some ⟨BL, 0, none⟩) k k) := by rw [hw]; exact HL2.out
              clear hw
              refine step_plain rfl ?_
              go_simp
              exact hK.out (.slice (some ⟨BL, 0, none⟩) k k) _ (sR_up hF 4 (by omega) _) (sF_val 4 (by omega) ((G4.out _).2 rfl)) (fun j hj hf h => sF_up 4 _ j hj (fun e => by subst e; exact absurd (Eq.trans (Eq.symm (by kernel_rfl)) hf) Bool.false_ne_true) h)
            ·
              intro u w21 au hsl hel hu hF hp' K hK
              have t11 : au.tmps[11]?.getD undef = .int .i64 (E : Int) := (hel.out 11 (by kernel_rfl)).trans (by kernel_rfl)
              refine step_plain rfl ?_
              go_simp
              exact hK.out (.int .i64 (E : Int)) _ (sR_up hF 5 (by omega) _) (sF_val 5 (by omega) ((G5.out _).2 rfl)) (fun j hj hf h => sF_up 5 _ j hj (fun e => by subst e; exact absurd (Eq.trans (Eq.symm (by kernel_rfl)) hf) Bool.false_ne_true) h)
            ·
              intro u w21 au hsl hel hu hF hp' K hK
              have h4 : u 4 = .slice (some ⟨BL, 0, none⟩) k k := (G4.out _).1 (PreF.get hp' 4 (by kernel_rfl)).1
              have t104 : au.tmps[104]?.getD undef = u 4 := hsl.out 4 104 (by kernel_rfl)
              rw [h4] at t104
              have h5 : u 5 = .int .i64 (E : Int) := (G5.out _).1 (PreF.get hp' 5 (by kernel_rfl)).1
              have t105 : au.tmps[105]?.getD undef = u 5 := hsl.out 5 105 (by kernel_rfl)
              rw [h5] at t105
              refine step_plain rfl ?_
              go_simp
              exact hK.out (.pointer (some ⟨BL, E, none⟩)) _ (sR_up hF 6 (by omega) _) (sF_val 6 (by omega) ((G6.out _).2 rfl)) (fun j hj hf h => sF_up 6 _ j hj (fun e => by subst e; exact absurd (Eq.trans (Eq.symm (by kernel_rfl)) hf) Bool.false_ne_true) h)
            ·
              intro u w21 au hsl hel hu hF hp' K hK
              have h6 : u 6 = .pointer (some ⟨BL, E, none⟩) := (G6.out _).1 (PreF.get hp' 6 (by kernel_rfl)).1
              have t106 : au.tmps[106]?.getD undef = u 6 := hsl.out 6 106 (by kernel_rfl)
              rw [h6] at t106
              have hw : w21 = wq.drew := hF ((hu.out 15 (by decide) (.inr (by kernel_rfl))).trans (by kernel_rfl))
              have xc : w21.cell? ⟨BL, E, none⟩ = some (.int .i64 O1) := by rw [hw]; exact HXL.out
              clear hw
              refine step_plain rfl ?_
              go_simp
              exact hK.out (.int .i64 O1) _ (sR_up hF 7 (by omega) _) (sF_val 7 (by omega) ((G7.out _).2 rfl)) (fun j hj hf h => sF_up 7 _ j hj (fun e => by subst e; exact absurd (Eq.trans (Eq.symm (by kernel_rfl)) hf) Bool.false_ne_true) h)
            ·
              intro u w21 au hsl hel hu hF hp' K hK
              have t2 : au.tmps[2]?.getD undef = .pointer (some ⟨w.heap.size, 0, none⟩) := (hel.out 2 (by kernel_rfl)).trans (by kernel_rfl)
              refine step_plain rfl ?_
              go_simp
              exact hK.out (.pointer (some ⟨w.heap.size, 3, none⟩)) _ (sR_up hF 8 (by omega) _) (sF_val 8 (by omega) ((G8.out _).2 rfl)) (fun j hj hf h => sF_up 8 _ j hj (fun e => by subst e; exact absurd (Eq.trans (Eq.symm (by kernel_rfl)) hf) Bool.false_ne_true) h)
            ·
              intro u w21 au hsl hel hu hF hp' K hK
              have h8 : u 8 = .pointer (some ⟨w.heap.size, 3, none⟩) := (G8.out _).1 (PreF.get hp' 8 (by kernel_rfl)).1
              have t108 : au.tmps[108]?.getD undef = u 8 := hsl.out 8 108 (by kernel_rfl)
              rw [h8] at t108
              have hw : w21 = wq.drew := hF ((hu.out 15 (by decide) (.inr (by kernel_rfl))).trans (by kernel_rfl))
              have xc : w21.cell? ⟨w.heap.size, 3, none⟩ = some (.slice (some ⟨ba, off, none⟩) n cap) := by rw [hw]; exact HI3.out
              clear hw
              refine step_plain rfl ?_
              go_simp
              exact hK.out (.slice (some ⟨ba, off, none⟩) n cap) _ (sR_up hF 9 (by omega) _) (sF_val 9 (by omega) ((G9.out _).2 rfl)) (fun j hj hf h => sF_up 9 _ j hj (fun e => by subst e; exact absurd (Eq.trans (Eq.symm (by kernel_rfl)) hf) Bool.false_ne_true) h)
            ·
              intro u w21 au hsl hel hu hF hp' K hK
              have t7 : au.tmps[7]?.getD undef = .int .i64 (t : Int) := (hel.out 7 (by kernel_rfl)).trans (by kernel_rfl)
              refine step_plain rfl ?_
              go_simp
              exact hK.out (.int .i64 (t : Int)) _ (sR_up hF 10 (by omega) _) (sF_val 10 (by omega) ((G10.out _).2 rfl)) (fun j hj hf h => sF_up 10 _ j hj (fun e => by subst e; exact absurd (Eq.trans (Eq.symm (by kernel_rfl)) hf) Bool.false_ne_true) h)
            ·
              intro u w21 au hsl hel hu hF hp' K hK
              have h9 : u 9 = .slice (some ⟨ba, off, none⟩) n cap := (G9.out _).1 (PreF.get hp' 9 (by kernel_rfl)).1
              have t109 : au.tmps[109]?.getD undef = u 9 := hsl.out 9 109 (by kernel_rfl)
              rw [h9] at t109
              have h10 : u 10 = .int .i64 (t : Int) := (G10.out _).1 (PreF.get hp' 10 (by kernel_rfl)).1
              have t110 : au.tmps[110]?.getD undef = u 10 := hsl.out 10 110 (by kernel_rfl)
              rw [h10] at t110
              refine step_plain rfl ?_
              go_simp
              exact hK.out (.pointer (some ⟨ba, off + t, none⟩)) _ (sR_up hF 11 (by omega) _) (sF_val 11 (by omega) ((G11.out _).2 rfl)) (fun j hj hf h => sF_up 11 _ j hj (fun e => by subst e; exact absurd (Eq.trans (Eq.symm (by kernel_rfl)) hf) Bool.false_ne_true) h)
            ·
              intro u w21 au hsl hel hu hF hp' K hK
              have h11 : u 11 = .pointer (some ⟨ba, off + t, none⟩) := (G11.out _).1 (PreF.get hp' 11 (by kernel_rfl)).1
              have t111 : au.tmps[111]?.getD undef = u 11 := hsl.out 11 111 (by kernel_rfl)
              rw [h11] at t111
              have hw : w21 = wq.drew := hF ((hu.out 15 (by decide) (.inr (by kernel_rfl))).trans (by kernel_rfl))
              have xc : w21.cell? ⟨ba, off + t, none⟩ = some (.int .i64 X1) := by rw [hw]; exact HXG.out
              clear hw
              refine step_plain rfl ?_
              go_simp
              exact hK.out (.int .i64 X1) _ (sR_up hF 12 (by omega) _) (sF_val 12 (by omega) ((G12.out _).2 rfl)) (fun j hj hf h => sF_up 12 _ j hj (fun e => by subst e; exact absurd (Eq.trans (Eq.symm (by kernel_rfl)) hf) Bool.false_ne_true) h)
            ·
              intro u w21 au hsl hel hu hF hp' K hK
              have h7 : u 7 = .int .i64 O1 := (G7.out _).1 (PreF.get hp' 7 (by kernel_rfl)).1
              have t107 : au.tmps[107]?.getD undef = u 7 := hsl.out 7 107 (by kernel_rfl)
              rw [h7] at t107
              have h12 : u 12 = .int .i64 X1 := (G12.out _).1 (PreF.get hp' 12 (by kernel_rfl)).1
              have t112 : au.tmps[112]?.getD undef = u 12 := hsl.out 12 112 (by kernel_rfl)
              rw [h12] at t112
              refine step_plain rfl ?_
              go_simp
              refine (cM w21).mono ?_
              rintro e w22 ⟨rfl, rfl⟩
              exact hK.out (.int .i64 Y1) _ (sR_up hF 13 (by omega) _) (sF_val 13 (by omega) ((G13.out _).2 rfl)) (fun j hj hf h => sF_up 13 _ j hj (fun e => by subst e; exact absurd (Eq.trans (Eq.symm (by kernel_rfl)) hf) Bool.false_ne_true) h)
            ·
              intro u w21 au hsl hel hu hF hp' K hK
              have h1 : u 1 = .slice (some ⟨BL, 0, none⟩) k k := (G1.out _).1 (PreF.get hp' 1 (by kernel_rfl)).1
              have t101 : au.tmps[101]?.getD undef = u 1 := hsl.out 1 101 (by kernel_rfl)
              rw [h1] at t101
              have h2 : u 2 = .int .i64 (E : Int) := (G2.out _).1 (PreF.get hp' 2 (by kernel_rfl)).1
              have t102 : au.tmps[102]?.getD undef = u 2 := hsl.out 2 102 (by kernel_rfl)
              rw [h2] at t102
              refine step_plain rfl ?_
              go_simp
              exact hK.out (.pointer (some ⟨BL, E, none⟩)) _ (sR_up hF 14 (by omega) _) (sF_val 14 (by omega) ((G14.out _).2 rfl)) (fun j hj hf h => sF_up 14 _ j hj (fun e => by subst e; exact absurd (Eq.trans (Eq.symm (by kernel_rfl)) hf) Bool.false_ne_true) h)
            ·
              intro u w21 au hsl hel hu hF hp' K hK
              have h14 : u 14 = .pointer (some ⟨BL, E, none⟩) := (G14.out _).1 (PreF.get hp' 14 (by kernel_rfl)).1
              have t114 : au.tmps[114]?.getD undef = u 14 := hsl.out 14 114 (by kernel_rfl)
              rw [h14] at t114
              have h13 : u 13 = .int .i64 Y1 := (G13.out _).1 (PreF.get hp' 13 (by kernel_rfl)).1
              have t113 : au.tmps[113]?.getD undef = u 13 := hsl.out 13 113 (by kernel_rfl)
              rw [h13] at t113
              have hw : w21 = wq.drew := hF ((hu.out 15 (by decide) (.inl rfl)).trans (by kernel_rfl))
              have xc : w21.cell? ⟨BL, E, none⟩ = some (.int .i64 O1) := by rw [hw]; exact HXL.out
              have xf : w21.frozen? ⟨BL, E, none⟩ = false := by rw [hw]; exact HXF.out
              have HW21 := hide hw
              clear hw
              refine step_plain rfl ?_
              go_simp
              exact hK.out (.bool true) _ (sR_st (by simp [undef])) (sF_st (G15.out _) (by rw [hPP, HW21.out])) (fun j hj _ h => sF_keep _ j hj h)
          · intro u w30 hF hall
            have hp := (hall 15 (by decide)).2 rfl
            rw [hPP] at hp
            have HE := hide hp
            clear hF hall hp
            simp only [rgPut, Act.put]
            go_simp
            have HL := hide HUP.out
            rw [← HE.out] at HL
            clear HUP HE
            have hlj := HLJ.out
            go_wp2_with fail
            exact ⟨⟨t + 1, by omega, rfl, HL.out⟩, by simp [intOf]; omega⟩
        · obtain rfl : t = n := by omega
          have HS9 := hide (St.cg0 HS.out (by omega) (g := BR) (fun q hq => HFIN.out q hq))
          obtain ⟨i0, i1, i2, i3⟩ := HS.out.im4 2 rfl
          obtain ⟨l0, l1, l2⟩ := HS.out.im3 0 rfl
          obtain ⟨o0, o1, o2⟩ := HS.out.im3 1 rfl
          obtain ⟨f0, f1, f2⟩ := HS.out.fr3 1 rfl
          have HZ := hide (St.fill3' (L1 := [_]) HS9.out (.int .i64 (x : Int)) (.int .i64 (z : Int)) (.slice (some ⟨BL, 0, none⟩) k k))
          obtain ⟨wz, hz⟩ : ∃ wz, ((wr.setCell ⟨w.heap.size + 1, 0, none⟩ (.int .i64 (x : Int))).setCell ⟨w.heap.size + 1, 1, none⟩ (.int .i64 (z : Int))).setCell ⟨w.heap.size + 1, 2, none⟩ (.slice (some ⟨BL, 0, none⟩) k k) = wz := ⟨_, rfl⟩
          rw [hz] at HZ
          obtain ⟨z0, z1, z2⟩ := HZ.out.im3 1 rfl
          have HE := hide (HZ.out.imR (x : Int) (z : Int) k)
          clear HS HS9 HZ
          go_wp2_with fail
          exact bodyPost_ret (v := im (x : Int) (z : Int) (some ⟨BL, 0, none⟩) k k) (by simp [results, Try.results16, go_sem, z0, z1, z2]) rfl HE.out

set_option maxRecDepth 100000 in
set_option maxHeartbeats 8000000 in
theorem specBright3 (x y z : Nat) (ba off n cap : Nat) (f : Nat → Int) (hl : n ≤ 1048576) (hq : volB (x : Int) (y : Int) (z : Int) n f = true) (hX : 1 ≤ x ∧ x ≤ 32) (hY : 1 ≤ y ∧ y ≤ 32) (hZ : 1 ≤ z ∧ z ≤ 32) (hnn : n = x * y * z) (w : World) (h : Px (some ⟨ba, off, none⟩) n f w) :
    Calls Try.prog 16 #[vVolume (x : Int) (y : Int) (z : Int) (some ⟨ba, off, none⟩) n cap, .int .i64 3] w (ImR ((x : Nat) : Int) ((y : Nat) : Int) (y * x) (brF f z (x * y) x 1 x) w) := by
  have HS0 := hide (((St.start w).box [.int .i64 (x : Int), .int .i64 (y : Int), .int .i64 (z : Int), .slice (some ⟨ba, off, none⟩) n cap] 29).box' [.int .i64 0, .int .i64 0, .slice none 0 0] 40 (b := w.heap.size + 1) (by simp))
  have c := specVolumeOk_any x y z (some ⟨ba, off, none⟩) n cap f hl _ (h.below HS0.out.below)
  rw [hq] at c
  have cI := l1In_any 3 1 3
  rw [show inB 3 1 3 = true by decide] at cI
  obtain ⟨N1, hN1⟩ : ∃ N, N = y * x := ⟨_, rfl⟩
  obtain ⟨N, hN⟩ : ∃ N, N = y * x := ⟨_, rfl⟩
  have hNb1 : N1 ≤ 1024 := by rw [hN1]; exact Nat.mul_le_mul hY.2 hX.2
  have hNb : N ≤ 1024 := by rw [hN]; exact Nat.mul_le_mul hY.2 hX.2
  have hNp : 0 < N := by rw [hN]; exact Nat.mul_pos hY.1 hX.1
  have cN1 := l2New_any (x : Int) (y : Int) N1 (by rw [hN1, Int.natCast_mul, Int.mul_comm]) (by omega)
  have cN := l2New_any (x : Int) (y : Int) N (by rw [hN, Int.natCast_mul, Int.mul_comm]) (by omega)
  obtain ⟨at', hat⟩ : ∃ at' : Nat → Nat, at' = (fun j => j / x % y * x + j % x) := ⟨_, rfl⟩
  have HFIN : Hid (∀ q, q < N → scK f at' n q = brF f z (x * y) x 1 x q) := by
    intro q hq'
    rw [hat, hnn]
    exact br3 f (by omega) (by rw [hN] at hq'; rw [Nat.mul_comm]; exact hq')
  have HAT := hide hat
  have HNN := hide hnn
  have HN := hide hN
  have HN1 := hide hN1
  have HP := hide h
  have hx0 : (x : Int) ≠ 0 := by omega
  have hy0 : (y : Int) ≠ 0 := by omega
  obtain ⟨i0, i1, i2, i3⟩ := HS0.out.im4 1 rfl
  rw [← hN]
  generalize (brF f z (x * y) x 1 x) = BR at *
  clear h hq hnn hN hN1 hat
  go_enter Try.func16, Try.ntmps16
  go_wp2_with fail
  refine c.mono ?_
  rintro e w1 ⟨rfl, hb⟩
  have HS1 := hide (HS0.out.next hb)
  clear c hb HS0 i0 i1 i2 i3
  go_wp2_with fail
  refine (cI _).mono ?_
  rintro e w2 ⟨rfl, rfl⟩
  clear cI
  obtain ⟨i0, i1, i2, i3⟩ := HS1.out.im4 1 rfl
  go_wp2_with fail
  refine (cN1 _).mono ?_
  rintro e w3 ⟨rfl, hr, hb, hs⟩
  have HS3 := hide ((HS1.out.own hb hr.v (.inr (by omega))).box [.int .i64 (x : Int), .int .i64 (y : Int), .slice (some ⟨w2.heap.size + 1, 0, none⟩) N1 N1] 40)
  generalize hB : w2.heap.size + 1 = B1 at *
  clear cN1 hr hb hs HS1 i0 i1 i2 i3
  have hNe : N1 = N := by rw [HN.out, HN1.out]
  subst hNe
  go_wp2_with fail
  generalize w3.alloc (.cells #[.int .i64 (x : Int), .int .i64 (y : Int), .slice (some ⟨B1, 0, none⟩) N1 N1] 40) = w6 at *
  generalize w3.heap.size = C at *
  clear cN hB
  obtain ⟨N, hNN⟩ : ∃ N, N1 = N := ⟨_, rfl⟩
  obtain ⟨BL, hBL⟩ : ∃ BL, B1 = BL := ⟨_, rfl⟩
  subst hNN hBL
  have HS7 := hide (St.cg0 HS3.out (by omega) (g := lowK 0) (fun q _ => by unfold lowK; rw [if_neg (by omega)]))
  clear HS3
  go_loopw [6] (fun i wr => ∃ k : Nat, k ≤ N1 ∧ i = .int .i64 k ∧ St w [(C, [.int .i64 (x : Int), .int .i64 (y : Int), .slice (some ⟨B1, 0, none⟩) N1 N1]), (w.heap.size + 1, [.int .i64 0, .int .i64 0, .slice none 0 0]), (w.heap.size, [.int .i64 (x : Int), .int .i64 (y : Int), .int .i64 (z : Int), .slice (some ⟨ba, off, none⟩) n cap])] [(some ⟨B1, 0, none⟩, B1, N1, fun q => .int .i64 (lowK k q))] wr) (fun i _ => N1 - (intOf i).toNat)
  case atStart => exact ⟨0, Nat.zero_le _, rfl, HS7.out⟩
  case round =>
    obtain ⟨k, hk, rfl, hst⟩ := hrel
    have HS := hide hst
    clear hst HS7
    by_cases hlt : k < N1
    · obtain ⟨l0, l1, l2⟩ := HS.out.im3 0 rfl
      obtain ⟨c0, g0⟩ := HS.out.atO hlt
      have hup := HS.out.upd hlt (-4095)
      rw [show updN (lowK k) k (-4095) = lowK (k + 1) from funext (lowK_step k)] at hup
      have HU := hide hup
      clear HS hup
      go_wp2_with fail
      exact ⟨⟨k + 1, by omega, rfl, HU.out⟩, by simp [intOf]; omega⟩
    · obtain rfl : k = N1 := by omega
      obtain ⟨wo, hwo⟩ : ∃ wo, wo = wr := ⟨_, rfl⟩
      subst hwo
      have HS8 := hide (St.cg0 HS.out (by omega) (g := scK f at' 0) (fun q hq => by unfold lowK; rw [if_pos hq]; rfl))
      obtain ⟨l0, l1, l2⟩ := HS.out.im3 0 rfl
      clear HS hlt
      go_wp2_with fail
      clear l0 l1 l2
      go_loopw [7] (fun i wr => ∃ t : Nat, t ≤ n ∧ i = .int .i64 t ∧ St w [(C, [.int .i64 (x : Int), .int .i64 (y : Int), .slice (some ⟨B1, 0, none⟩) k k]), (w.heap.size + 1, [.int .i64 0, .int .i64 0, .slice none 0 0]), (w.heap.size, [.int .i64 (x : Int), .int .i64 (y : Int), .int .i64 (z : Int), .slice (some ⟨ba, off, none⟩) n cap])] [(some ⟨B1, 0, none⟩, B1, k, fun q => .int .i64 (scK f at' t q))] wr) (fun i _ => n - (intOf i).toNat)
      case atStart => exact ⟨0, Nat.zero_le _, rfl, HS8.out⟩
      case round =>
        obtain ⟨t, hj, rfl, hst⟩ := hrel
        have HS := hide hst
        clear hst HS8
        by_cases hlj : t < n
        · obtain ⟨i0, i1, i2, i3⟩ := HS.out.im4 2 rfl
          obtain ⟨l0, l1, l2⟩ := HS.out.im3 0 rfl
          have hk3 := pos3 (x := x) (y := y) (z := z) (k := t) (by omega) (by omega) (by rw [← HNN.out]; exact hlj)
          have hQj := Nat.div_le_self t x
          have hAj : at' t = t / x % y * x + t % x := by rw [HAT.out]
          obtain ⟨A, hA⟩ : ∃ A, A = t % x := ⟨_, rfl⟩
          obtain ⟨Q, hQ⟩ : ∃ Q, Q = t / x := ⟨_, rfl⟩
          obtain ⟨B, hB⟩ : ∃ B, B = Q % y := ⟨_, rfl⟩
          obtain ⟨D, hD⟩ : ∃ D, D = Q / y := ⟨_, rfl⟩
          have t1 : (t : Int).tmod (x : Int) = (A : Int) := by rw [hA]; rfl
          have t2 : (t : Int).tdiv (x : Int) = (Q : Int) := by rw [hQ]; rfl
          have t3 : (Q : Int).tmod (y : Int) = (B : Int) := by rw [hB]; rfl
          have t4 : (Q : Int).tdiv (y : Int) = (D : Int) := by rw [hD]; rfl
          have hDQ : D ≤ Q := by rw [hD]; exact Nat.div_le_self Q y
          rw [← hQ, ← hB, ← hD, ← hA] at hk3
          rw [← hQ] at hQj
          rw [← hQ] at hAj
          rw [← hB, ← hA] at hAj
          have wQ : IntKind.i64.wrap (Q : Int) = (Q : Int) := by rw [IntKind.wrap_i64]; omega
          have wD : IntKind.i64.wrap (D : Int) = (D : Int) := by rw [IntKind.wrap_i64]; omega
          have mU1 : B * x ≤ 32 * 32 := Nat.mul_le_mul (by omega) (by omega)
          have mU2 : D * x ≤ 32 * 32 := Nat.mul_le_mul (by omega) (by omega)
          obtain ⟨U1, hU1⟩ : ∃ U, U = B * x := ⟨_, rfl⟩
          obtain ⟨U2, hU2⟩ : ∃ U, U = D * x := ⟨_, rfl⟩
          obtain ⟨E, hE⟩ : ∃ E, E = U1 + A := ⟨_, rfl⟩
          have hEN : E < k := by rw [HN1.out, hE, hU1]; exact lt2 (by omega) (by omega)
          have wU1 : IntKind.i64.wrap ((B : Int) * (x : Int)) = (U1 : Int) := by rw [IntKind.wrap_i64, ← Int.natCast_mul, ← hU1]; omega
          have wU2 : IntKind.i64.wrap ((D : Int) * (x : Int)) = (U2 : Int) := by rw [IntKind.wrap_i64, ← Int.natCast_mul, ← hU2]; omega
          obtain ⟨V1, hV1⟩ : ∃ V, V = U1 + A := ⟨_, rfl⟩
          have wV1 : IntKind.i64.wrap ((U1 : Int) + (A : Int)) = (V1 : Int) := by rw [IntKind.wrap_i64]; omega
          obtain rfl : E = V1 := by omega
          rw [← hU1, ← hE] at hAj
          obtain ⟨_, _, heq, hv⟩ := (HP.out.below HS.out.below).at hlj
          cases heq
          have HAJ := hide hAj
          have HEN := hide hEN
          clear hk3 hQj hA hQ hB hD hDQ mU1 mU2 hU1 hU2 hE hEN hAj hV1
          have HDR := hide (fun d => HS.out.next (below_drewN (Below.refl _ _) d))
          go_upto_region 17 with fail
          go_quiet (fail)
          have HSp := hide (HDR.out nq)
          clear HDR HS i0 i1 i2 i3 l0 l1 l2
          have hbp := below_drewN (Below.refl wr.heap.size wr) nq
          rw [← hbp.cell (p := ⟨ba, off + t, none⟩) (World.block_lt_of_cell? _ _ hv)] at hv
          clear hbp
          generalize wr.drewN nq = wp at *
          have HDR := hide (fun d => HSp.out.next (below_drewN (Below.refl _ _) d))
          obtain ⟨i0, i1, i2, i3⟩ := HSp.out.im4 2 rfl
          go_upto_region 18 with fail
          go_quiet (fail)
          have HSq := hide (HDR.out nq)
          clear HDR HSp i0 i1 i2 i3
          have hbp := below_drewN (Below.refl wp.heap.size wp) nq
          rw [← hbp.cell (p := ⟨ba, off + t, none⟩) (World.block_lt_of_cell? _ _ hv)] at hv
          clear hbp
          generalize wp.drewN nq = wq at *
          obtain ⟨i0, i1, i2, i3⟩ := HSq.out.im4 2 rfl
          obtain ⟨l0, l1, l2⟩ := HSq.out.im3 0 rfl
          go_upto_region 25 with fail
          obtain ⟨hxl, hxf⟩ := HSq.out.atO HEN.out
          have hup := HSq.out.drew.upd HEN.out (max (scK f at' t E) (f t))
          have e : updN (scK f at' t) E (max (scK f at' t E) (f t)) = scK f at' (t + 1) := by
            funext q
            rw [← HAJ.out]
            rfl
          rw [e] at hup
          obtain ⟨O1, hO1⟩ : ∃ O1, scK f at' t E = O1 := ⟨_, rfl⟩
          obtain ⟨X1, hX1⟩ : ∃ X1, f t = X1 := ⟨_, rfl⟩
          obtain ⟨Y1, hY1⟩ : ∃ Y1, max O1 X1 = Y1 := ⟨_, rfl⟩
          rw [hO1, hX1, hY1] at hup
          rw [hO1] at hxl
          rw [hX1] at hv
          have cM : ∀ w', Calls Try.prog 38 #[.int .i64 O1, .int .i64 X1] w' fun e w'' => e = .returned (.int .i64 Y1) ∧ w'' = w' := fun w' => by rw [← hY1]; exact l1Max_any O1 X1 w'
          have HUP := hide hup
          have HXL := hide hxl
          have HXF := hide hxf
          have HXG := hide hv
          have HI3 := hide i3
          have HL2 := hide l2
          have HLJ := hide hlj
          clear hup hxl hxf hv i0 i1 i2 i3 l0 l1 l2 HSq e hO1 hX1 hY1 HAJ
          have hEN := HEN.out
          clear HEN
          obtain ⟨G, hG⟩ : ∃ G : Nat → Value → Prop, G = (fun j v => match j with | 0 => v = .pointer (some ⟨C, 2, none⟩) | 1 => v = .slice (some ⟨B1, 0, none⟩) k k | 2 => v = .int .i64 (E : Int) | 3 => v = .pointer (some ⟨C, 2, none⟩) | 4 => v = .slice (some ⟨B1, 0, none⟩) k k | 5 => v = .int .i64 (E : Int) | 6 => v = .pointer (some ⟨B1, E, none⟩) | 7 => v = .int .i64 O1 | 8 => v = .pointer (some ⟨w.heap.size, 3, none⟩) | 9 => v = .slice (some ⟨ba, off, none⟩) n cap | 10 => v = .int .i64 (t : Int) | 11 => v = .pointer (some ⟨ba, off + t, none⟩) | 12 => v = .int .i64 X1 | 13 => v = .int .i64 Y1 | 14 => v = .pointer (some ⟨B1, E, none⟩) | _ => True) := ⟨_, rfl⟩
          have G0 : Hid (∀ v, G 0 v ↔ v = .pointer (some ⟨C, 2, none⟩)) := fun v => by rw [hG]; exact Iff.rfl
          have G1 : Hid (∀ v, G 1 v ↔ v = .slice (some ⟨B1, 0, none⟩) k k) := fun v => by rw [hG]; exact Iff.rfl
          have G2 : Hid (∀ v, G 2 v ↔ v = .int .i64 (E : Int)) := fun v => by rw [hG]; exact Iff.rfl
          have G3 : Hid (∀ v, G 3 v ↔ v = .pointer (some ⟨C, 2, none⟩)) := fun v => by rw [hG]; exact Iff.rfl
          have G4 : Hid (∀ v, G 4 v ↔ v = .slice (some ⟨B1, 0, none⟩) k k) := fun v => by rw [hG]; exact Iff.rfl
          have G5 : Hid (∀ v, G 5 v ↔ v = .int .i64 (E : Int)) := fun v => by rw [hG]; exact Iff.rfl
          have G6 : Hid (∀ v, G 6 v ↔ v = .pointer (some ⟨B1, E, none⟩)) := fun v => by rw [hG]; exact Iff.rfl
          have G7 : Hid (∀ v, G 7 v ↔ v = .int .i64 O1) := fun v => by rw [hG]; exact Iff.rfl
          have G8 : Hid (∀ v, G 8 v ↔ v = .pointer (some ⟨w.heap.size, 3, none⟩)) := fun v => by rw [hG]; exact Iff.rfl
          have G9 : Hid (∀ v, G 9 v ↔ v = .slice (some ⟨ba, off, none⟩) n cap) := fun v => by rw [hG]; exact Iff.rfl
          have G10 : Hid (∀ v, G 10 v ↔ v = .int .i64 (t : Int)) := fun v => by rw [hG]; exact Iff.rfl
          have G11 : Hid (∀ v, G 11 v ↔ v = .pointer (some ⟨ba, off + t, none⟩)) := fun v => by rw [hG]; exact Iff.rfl
          have G12 : Hid (∀ v, G 12 v ↔ v = .int .i64 X1) := fun v => by rw [hG]; exact Iff.rfl
          have G13 : Hid (∀ v, G 13 v ↔ v = .int .i64 Y1) := fun v => by rw [hG]; exact Iff.rfl
          have G14 : Hid (∀ v, G 14 v ↔ v = .pointer (some ⟨B1, E, none⟩)) := fun v => by rw [hG]; exact Iff.rfl
          have G15 : Hid (∀ v, G 15 v) := fun v => by rw [hG]; trivial
          clear hG
          obtain ⟨PP, hPP⟩ : ∃ P : World → Prop, P = (fun wx => wx = wq.drew.setCell ⟨B1, E, none⟩ (.int .i64 Y1)) := ⟨_, rfl⟩
          refine region_opsV (sR 15 wq) (sF 15 G PP) (by kernel_rfl) (by kernel_rfl) (by kernel_rfl) (by kernel_rfl) (fun _ => rfl) ?_ ?_
          · refine ⟨?_, ?_, ?_, ?_, ?_, ?_, ?_, ?_, ?_, ?_, ?_, ?_, ?_, ?_, ?_, ?_, trivial⟩
            ·
              intro u w21 au hsl hel hu hF hp' K hK
              have t5 : au.tmps[5]?.getD undef = .pointer (some ⟨C, 0, none⟩) := (hel.out 5 (by kernel_rfl)).trans (by kernel_rfl)
              refine step_plain rfl ?_
              go_simp
              exact hK.out (.pointer (some ⟨C, 2, none⟩)) _ (sR_up hF 0 (by omega) _) (sF_val 0 (by omega) ((G0.out _).2 rfl)) (fun j hj hf h => sF_up 0 _ j hj (fun e => by subst e; exact absurd (Eq.trans (Eq.symm (by kernel_rfl)) hf) Bool.false_ne_true) h)
            ·
              intro u w21 au hsl hel hu hF hp' K hK
              have h0 : u 0 = .pointer (some ⟨C, 2, none⟩) := (G0.out _).1 (PreF.get hp' 0 (by kernel_rfl)).1
              have t100 : au.tmps[100]?.getD undef = u 0 := hsl.out 0 100 (by kernel_rfl)
              rw [h0] at t100
              have hw : w21 = wq.drew := hF ((hu.out 15 (by decide) (.inr (by kernel_rfl))).trans (by kernel_rfl))
              have xc : w21.cell? ⟨C, 2, none⟩ = some (.slice (some ⟨B1, 0, none⟩) k k) := by rw [hw]; exact HL2.out
              clear hw
              refine step_plain rfl ?_
              go_simp
              exact hK.out (.slice (some ⟨B1, 0, none⟩) k k) _ (sR_up hF 1 (by omega) _) (sF_val 1 (by omega) ((G1.out _).2 rfl)) (fun j hj hf h => sF_up 1 _ j hj (fun e => by subst e; exact absurd (Eq.trans (Eq.symm (by kernel_rfl)) hf) Bool.false_ne_true) h)
            ·
              intro u w21 au hsl hel hu hF hp' K hK
              have t11 : au.tmps[11]?.getD undef = .int .i64 (E : Int) := (hel.out 11 (by kernel_rfl)).trans (by kernel_rfl)
              refine step_plain rfl ?_
              go_simp
              exact hK.out (.int .i64 (E : Int)) _ (sR_up hF 2 (by omega) _) (sF_val 2 (by omega) ((G2.out _).2 rfl)) (fun j hj hf h => sF_up 2 _ j hj (fun e => by subst e; exact absurd (Eq.trans (Eq.symm (by kernel_rfl)) hf) Bool.false_ne_true) h)
            ·
              intro u w21 au hsl hel hu hF hp' K hK
              have t5 : au.tmps[5]?.getD undef = .pointer (some ⟨C, 0, none⟩) := (hel.out 5 (by kernel_rfl)).trans (by kernel_rfl)
              refine step_plain rfl ?_
              go_simp
              exact hK.out (.pointer (some ⟨C, 2, none⟩)) _ (sR_up hF 3 (by omega) _) (sF_val 3 (by omega) ((G3.out _).2 rfl)) (fun j hj hf h => sF_up 3 _ j hj (fun e => by subst e; exact absurd (Eq.trans (Eq.symm (by kernel_rfl)) hf) Bool.false_ne_true) h)
            ·
              intro u w21 au hsl hel hu hF hp' K hK
              have h3 : u 3 = .pointer (some ⟨C, 2, none⟩) := (G3.out _).1 (PreF.get hp' 3 (by kernel_rfl)).1
              have t103 : au.tmps[103]?.getD undef = u 3 := hsl.out 3 103 (by kernel_rfl)
              rw [h3] at t103
              have hw : w21 = wq.drew := hF ((hu.out 15 (by decide) (.inr (by kernel_rfl))).trans (by kernel_rfl))
              have xc : w21.cell? ⟨C, 2, none⟩ = some (.slice (some ⟨B1, 0, none⟩) k k) := by rw [hw]; exact HL2.out
              clear hw
              refine step_plain rfl ?_
              go_simp
              exact hK.out (.slice (some ⟨B1, 0, none⟩) k k) _ (sR_up hF 4 (by omega) _) (sF_val 4 (by omega) ((G4.out _).2 rfl)) (fun j hj hf h => sF_up 4 _ j hj (fun e => by subst e; exact absurd (Eq.trans (Eq.symm (by kernel_rfl)) hf) Bool.false_ne_true) h)
            ·
              intro u w21 au hsl hel hu hF hp' K hK
              have t11 : au.tmps[11]?.getD undef = .int .i64 (E : Int) := (hel.out 11 (by kernel_rfl)).trans (by kernel_rfl)
              refine step_plain rfl ?_
              go_simp
              exact hK.out (.int .i64 (E : Int)) _ (sR_up hF 5 (by omega) _) (sF_val 5 (by omega) ((G5.out _).2 rfl)) (fun j hj hf h => sF_up 5 _ j hj (fun e => by subst e; exact absurd (Eq.trans (Eq.symm (by kernel_rfl)) hf) Bool.false_ne_true) h)
            ·
              intro u w21 au hsl hel hu hF hp' K hK
              have h4 : u 4 = .slice (some ⟨B1, 0, none⟩) k k := (G4.out _).1 (PreF.get hp' 4 (by kernel_rfl)).1
              have t104 : au.tmps[104]?.getD undef = u 4 := hsl.out 4 104 (by kernel_rfl)
              rw [h4] at t104
              have h5 : u 5 = .int .i64 (E : Int) := (G5.out _).1 (PreF.get hp' 5 (by kernel_rfl)).1
              have t105 : au.tmps[105]?.getD undef = u 5 := hsl.out 5 105 (by kernel_rfl)
              rw [h5] at t105
              refine step_plain rfl ?_
              go_simp
              exact hK.out (.pointer (some ⟨B1, E, none⟩)) _ (sR_up hF 6 (by omega) _) (sF_val 6 (by omega) ((G6.out _).2 rfl)) (fun j hj hf h => sF_up 6 _ j hj (fun e => by subst e; exact absurd (Eq.trans (Eq.symm (by kernel_rfl)) hf) Bool.false_ne_true) h)
            ·
              intro u w21 au hsl hel hu hF hp' K hK
              have h6 : u 6 = .pointer (some ⟨B1, E, none⟩) := (G6.out _).1 (PreF.get hp' 6 (by kernel_rfl)).1
              have t106 : au.tmps[106]?.getD undef = u 6 := hsl.out 6 106 (by kernel_rfl)
              rw [h6] at t106
              have hw : w21 = wq.drew := hF ((hu.out 15 (by decide) (.inr (by kernel_rfl))).trans (by kernel_rfl))
              have xc : w21.cell? ⟨B1, E, none⟩ = some (.int .i64 O1) := by rw [hw]; exact HXL.out
              clear hw
              refine step_plain rfl ?_
              go_simp
              exact hK.out (.int .i64 O1) _ (sR_up hF 7 (by omega) _) (sF_val 7 (by omega) ((G7.out _).2 rfl)) (fun j hj hf h => sF_up 7 _ j hj (fun e => by subst e; exact absurd (Eq.trans (Eq.symm (by kernel_rfl)) hf) Bool.false_ne_true) h)
            ·
              intro u w21 au hsl hel hu hF hp' K hK
              have t2 : au.tmps[2]?.getD undef = .pointer (some ⟨w.heap.size, 0, none⟩) := (hel.out 2 (by kernel_rfl)).trans (by kernel_rfl)
              refine step_plain rfl ?_
              go_simp
              exact hK.out (.pointer (some ⟨w.heap.size, 3, none⟩)) _ (sR_up hF 8 (by omega) _) (sF_val 8 (by omega) ((G8.out _).2 rfl)) (fun j hj hf h => sF_up 8 _ j hj (fun e => by subst e; exact absurd (Eq.trans (Eq.symm (by kernel_rfl)) hf) Bool.false_ne_true) h)
            ·
              intro u w21 au hsl hel hu hF hp' K hK
              have h8 : u 8 = .pointer (some ⟨w.heap.size, 3, none⟩) := (G8.out _).1 (PreF.get hp' 8 (by kernel_rfl)).1
              have t108 : au.tmps[108]?.getD undef = u 8 := hsl.out 8 108 (by kernel_rfl)
              rw [h8] at t108
              have hw : w21 = wq.drew := hF ((hu.out 15 (by decide) (.inr (by kernel_rfl))).trans (by kernel_rfl))
              have xc : w21.cell? ⟨w.heap.size, 3, none⟩ = some (.slice (some ⟨ba, off, none⟩) n cap) := by rw [hw]; exact HI3.out
              clear hw
              refine step_plain rfl ?_
              go_simp
              exact hK.out (.slice (some ⟨ba, off, none⟩) n cap) _ (sR_up hF 9 (by omega) _) (sF_val 9 (by omega) ((G9.out _).2 rfl)) (fun j hj hf h => sF_up 9 _ j hj (fun e => by subst e; exact absurd (Eq.trans (Eq.symm (by kernel_rfl)) hf) Bool.false_ne_true) h)
            ·
              intro u w21 au hsl hel hu hF hp' K hK
              have t7 : au.tmps[7]?.getD undef = .int .i64 (t : Int) := (hel.out 7 (by kernel_rfl)).trans (by kernel_rfl)
              refine step_plain rfl ?_
              go_simp
              exact hK.out (.int .i64 (t : Int)) _ (sR_up hF 10 (by omega) _) (sF_val 10 (by omega) ((G10.out _).2 rfl)) (fun j hj hf h => sF_up 10 _ j hj (fun e => by subst e; exact absurd (Eq.trans (Eq.symm (by kernel_rfl)) hf) Bool.false_ne_true) h)
            ·
              intro u w21 au hsl hel hu hF hp' K hK
              have h9 : u 9 = .slice (some ⟨ba, off, none⟩) n cap := (G9.out _).1 (PreF.get hp' 9 (by kernel_rfl)).1
              have t109 : au.tmps[109]?.getD undef = u 9 := hsl.out 9 109 (by kernel_rfl)
              rw [h9] at t109
              have h10 : u 10 = .int .i64 (t : Int) := (G10.out _).1 (PreF.get hp' 10 (by kernel_rfl)).1
              have t110 : au.tmps[110]?.getD undef = u 10 := hsl.out 10 110 (by kernel_rfl)
              rw [h10] at t110
              refine step_plain rfl ?_
              go_simp
              exact hK.out (.pointer (some ⟨ba, off + t, none⟩)) _ (sR_up hF 11 (by omega) _) (sF_val 11 (by omega) ((G11.out _).2 rfl)) (fun j hj hf h => sF_up 11 _ j hj (fun e => by subst e; exact absurd (Eq.trans (Eq.symm (by kernel_rfl)) hf) Bool.false_ne_true) h)
            ·
              intro u w21 au hsl hel hu hF hp' K hK
              have h11 : u 11 = .pointer (some ⟨ba, off + t, none⟩) := (G11.out _).1 (PreF.get hp' 11 (by kernel_rfl)).1
              have t111 : au.tmps[111]?.getD undef = u 11 := hsl.out 11 111 (by kernel_rfl)
              rw [h11] at t111
              have hw : w21 = wq.drew := hF ((hu.out 15 (by decide) (.inr (by kernel_rfl))).trans (by kernel_rfl))
              have xc : w21.cell? ⟨ba, off + t, none⟩ = some (.int .i64 X1) := by rw [hw]; exact HXG.out
              clear hw
              refine step_plain rfl ?_
              go_simp
              exact hK.out (.int .i64 X1) _ (sR_up hF 12 (by omega) _) (sF_val 12 (by omega) ((G12.out _).2 rfl)) (fun j hj hf h => sF_up 12 _ j hj (fun e => by subst e; exact absurd (Eq.trans (Eq.symm (by kernel_rfl)) hf) Bool.false_ne_true) h)
            ·
              intro u w21 au hsl hel hu hF hp' K hK
              have h7 : u 7 = .int .i64 O1 := (G7.out _).1 (PreF.get hp' 7 (by kernel_rfl)).1
              have t107 : au.tmps[107]?.getD undef = u 7 := hsl.out 7 107 (by kernel_rfl)
              rw [h7] at t107
              have h12 : u 12 = .int .i64 X1 := (G12.out _).1 (PreF.get hp' 12 (by kernel_rfl)).1
              have t112 : au.tmps[112]?.getD undef = u 12 := hsl.out 12 112 (by kernel_rfl)
              rw [h12] at t112
              refine step_plain rfl ?_
              go_simp
              refine (cM w21).mono ?_
              rintro e w22 ⟨rfl, rfl⟩
              exact hK.out (.int .i64 Y1) _ (sR_up hF 13 (by omega) _) (sF_val 13 (by omega) ((G13.out _).2 rfl)) (fun j hj hf h => sF_up 13 _ j hj (fun e => by subst e; exact absurd (Eq.trans (Eq.symm (by kernel_rfl)) hf) Bool.false_ne_true) h)
            ·
              intro u w21 au hsl hel hu hF hp' K hK
              have h1 : u 1 = .slice (some ⟨B1, 0, none⟩) k k := (G1.out _).1 (PreF.get hp' 1 (by kernel_rfl)).1
              have t101 : au.tmps[101]?.getD undef = u 1 := hsl.out 1 101 (by kernel_rfl)
              rw [h1] at t101
              have h2 : u 2 = .int .i64 (E : Int) := (G2.out _).1 (PreF.get hp' 2 (by kernel_rfl)).1
              have t102 : au.tmps[102]?.getD undef = u 2 := hsl.out 2 102 (by kernel_rfl)
              rw [h2] at t102
              refine step_plain rfl ?_
              go_simp
              exact hK.out (.pointer (some ⟨B1, E, none⟩)) _ (sR_up hF 14 (by omega) _) (sF_val 14 (by omega) ((G14.out _).2 rfl)) (fun j hj hf h => sF_up 14 _ j hj (fun e => by subst e; exact absurd (Eq.trans (Eq.symm (by kernel_rfl)) hf) Bool.false_ne_true) h)
            ·
              intro u w21 au hsl hel hu hF hp' K hK
              have h14 : u 14 = .pointer (some ⟨B1, E, none⟩) := (G14.out _).1 (PreF.get hp' 14 (by kernel_rfl)).1
              have t114 : au.tmps[114]?.getD undef = u 14 := hsl.out 14 114 (by kernel_rfl)
              rw [h14] at t114
              have h13 : u 13 = .int .i64 Y1 := (G13.out _).1 (PreF.get hp' 13 (by kernel_rfl)).1
              have t113 : au.tmps[113]?.getD undef = u 13 := hsl.out 13 113 (by kernel_rfl)
              rw [h13] at t113
              have hw : w21 = wq.drew := hF ((hu.out 15 (by decide) (.inl rfl)).trans (by kernel_rfl))
              have xc : w21.cell? ⟨B1, E, none⟩ = some (.int .i64 O1) := by rw [hw]; exact HXL.out
              have xf : w21.frozen? ⟨B1, E, none⟩ = false := by rw [hw]; exact HXF.out
              have HW21 := hide hw
              clear hw
              refine step_plain rfl ?_
              go_simp
              exact hK.out (.bool true) _ (sR_st (by simp [undef])) (sF_st (G15.out _) (by rw [hPP, HW21.out])) (fun j hj _ h => sF_keep _ j hj h)
          · intro u w30 hF hall
            have hp := (hall 15 (by decide)).2 rfl
            rw [hPP] at hp
            have HE := hide hp
            clear hF hall hp
            simp only [rgPut, Act.put]
            go_simp
            have HL := hide HUP.out
            rw [← HE.out] at HL
            clear HUP HE
            have hlj := HLJ.out
            go_wp2_with fail
            exact ⟨⟨t + 1, by omega, rfl, HL.out⟩, by simp [intOf]; omega⟩
        · obtain rfl : t = n := by omega
          have HS9 := hide (St.cg0 HS.out (by omega) (g := BR) (fun q hq => HFIN.out q hq))
          obtain ⟨i0, i1, i2, i3⟩ := HS.out.im4 2 rfl
          obtain ⟨l0, l1, l2⟩ := HS.out.im3 0 rfl
          obtain ⟨o0, o1, o2⟩ := HS.out.im3 1 rfl
          obtain ⟨f0, f1, f2⟩ := HS.out.fr3 1 rfl
          have HZ := hide (St.fill3' (L1 := [_]) HS9.out (.int .i64 (x : Int)) (.int .i64 (y : Int)) (.slice (some ⟨B1, 0, none⟩) k k))
          obtain ⟨wz, hz⟩ : ∃ wz, ((wr.setCell ⟨w.heap.size + 1, 0, none⟩ (.int .i64 (x : Int))).setCell ⟨w.heap.size + 1, 1, none⟩ (.int .i64 (y : Int))).setCell ⟨w.heap.size + 1, 2, none⟩ (.slice (some ⟨B1, 0, none⟩) k k) = wz := ⟨_, rfl⟩
          rw [hz] at HZ
          obtain ⟨z0, z1, z2⟩ := HZ.out.im3 1 rfl
          have HE := hide (HZ.out.imR (x : Int) (y : Int) k)
          clear HS HS9 HZ
          go_wp2_with fail
          exact bodyPost_ret (v := im (x : Int) (y : Int) (some ⟨B1, 0, none⟩) k k) (by simp [results, Try.results16, go_sem, z0, z1, z2]) rfl HE.out

end Go.Proofs.Ytpbeogepgjbacaa
