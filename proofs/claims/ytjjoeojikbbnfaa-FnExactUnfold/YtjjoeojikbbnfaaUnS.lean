/- Unfolding: the specification, where it can be. -/
import Derived.Test.YtjjoeojikbbnfaaUnI
import Derived.Test.YtjjoeojikbbnfaaRsd
import Derived.Deep.RegionHeld
namespace Go.Proofs.Ytjjoeojikbbnfaa
open Go.RowKit

theorem slotAt {a : Option Addr} {b n : Nat} {f : Nat → Value} {w : World} (h : OwV a b n f w) {k : Nat} (hk : k < n) : (∃ v, w.cell? ⟨b, k, none⟩ = some v) ∧ w.frozen? ⟨b, k, none⟩ = false := by
  rcases h with h | h
  · omega
  · exact ⟨⟨_, (h.2 k hk).1⟩, (h.2 k hk).2⟩
/-- a product of residues, and its remainder -/
theorem prod2 (a b : Int) (ha : 0 ≤ a ∧ a < 12289) (hb : 0 ≤ b ∧ b < 12289) : ∃ Y, IntKind.i64.wrap (a * b) = Y ∧ Y.tmod 12289 = res (a * b) := by
  have v1 : (a * b).natAbs ≤ 12289 * 12289 := natb (by omega) (by omega)
  refine ⟨a * b, wrapn v1 (by omega), ?_⟩
  rw [Int.tmod_eq_emod_of_nonneg (Int.mul_nonneg ha.1 hb.1)]
  rfl
theorem res_sub (a b c d : Int) : res (res a * res b - res c * res d) = res (a * b - c * d) := by
  unfold res
  rw [Int.sub_emod, ← Int.mul_emod, ← Int.mul_emod, ← Int.sub_emod]
theorem rowAt {a : Option Addr} {b n : Nat} {f : Nat → Int} {w : World} (h : OwV a b n (fun k => .int .i64 (f k)) w) {k : Nat} (hk : k < n) : w.cell? ⟨b, k, none⟩ = some (.int .i64 (f k)) := by
  rcases h with h | h
  · omega
  · exact (h.2 k hk).1
/-- the difference of two products of residues, and its residue -/
theorem diff2 (a b c d : Int) (ha : 0 ≤ a ∧ a < 12289) (hb : 0 ≤ b ∧ b < 12289) (hc : 0 ≤ c ∧ c < 12289) (hd : 0 ≤ d ∧ d < 12289) :
    ∃ X, IntKind.i64.wrap (a * b) = a * b ∧ IntKind.i64.wrap (c * d) = c * d ∧ IntKind.i64.wrap (a * b - c * d) = X ∧ res X = res (a * b - c * d) := by
  have v1 : (a * b).natAbs ≤ 12289 * 12289 := natb (by omega) (by omega)
  have v2 : (c * d).natAbs ≤ 12289 * 12289 := natb (by omega) (by omega)
  exact ⟨a * b - c * d, wrapn v1 (by omega), wrapn v2 (by omega), by rw [IntKind.wrap_i64]; omega, rfl⟩

set_option maxRecDepth 100000 in
set_option maxHeartbeats 6000000 in
theorem specUnfold_yes (W H H2 : Int) (Q K : Nat) (hK : K = 2 * Q) (hWK : W * H2 = (K : Int)) (hH2 : H2 = 2 * H) (hQ : 1 ≤ Q) (hQ2 : Q ≤ 2048) (a0 : Option Addr) (cap0 : Nat) (f0 : Nat → Int) (a1 : Option Addr) (cap1 : Nat) (f1 : Nat → Int) (a2 : Option Addr) (cap2 : Nat) (f2 : Nat → Int) (a3 : Option Addr) (cap3 : Nat) (f3 : Nat → Int) (w : World) (h0 : Px a0 Q f0 w) (h1 : Px a1 Q f1 w) (h2 : Px a2 K f2 w) (h3 : Px a3 K f3 w) (hq0 : okB W H Q f0 = true) (hq1 : okB W H Q f1 = true) (hq2 : okB W H2 K f2 = true) (hq3 : okB W H2 K f3 = true) :
    Calls Try.prog 5 #[im W H a0 Q cap0, im W H a1 Q cap1, im W H2 a2 K cap2, im W H2 a3 K cap3] w (ImRI W H2 K (curF Q f0 f1 f2 f3 Q) (cntF Q f0 f1 f2 f3 Q) w) := by
  have hA0 := specOk_any W H a0 Q cap0 f0 (by omega)
  have cR0 := fun w' h => specResidues_any W H a0 Q cap0 f0 (by omega) w' h
  rw [hq0] at hA0 cR0
  simp only [if_true] at cR0
  unfold ImR at cR0
  have HP0 := hide h0
  have hA1 := specOk_any W H a1 Q cap1 f1 (by omega)
  have cR1 := fun w' h => specResidues_any W H a1 Q cap1 f1 (by omega) w' h
  rw [hq1] at hA1 cR1
  simp only [if_true] at cR1
  unfold ImR at cR1
  have HP1 := hide h1
  have hA2 := specOk_any W H2 a2 K cap2 f2 (by omega)
  have cR2 := fun w' h => specResidues_any W H2 a2 K cap2 f2 (by omega) w' h
  rw [hq2] at hA2 cR2
  simp only [if_true] at cR2
  unfold ImR at cR2
  have HP2 := hide h2
  have hA3 := specOk_any W H2 a3 K cap3 f3 (by omega)
  have cR3 := fun w' h => specResidues_any W H2 a3 K cap3 f3 (by omega) w' h
  rw [hq3] at hA3 cR3
  simp only [if_true] at cR3
  unfold ImR at cR3
  have HP3 := hide h3
  have HS0 := hide (St.five w W H (.slice a0 Q cap0) W H (.slice a1 Q cap1) W H2 (.slice a2 K cap2) W H2 (.slice a3 K cap3))
  obtain ⟨s1, s2⟩ := side_bounds (okB_parts hq0).2.1
  have hw2 : IntKind.i64.wrap (2 * H) = H2 := by rw [IntKind.wrap_i64]; omega
  have t0' : (W != W) = false := by simp
  have t1' : (H != H) = false := by simp
  have t4' : (H2 != H2) = false := by simp
  have hnew := l2New_any W H2 K hWK (by omega)
  have HKQ := hide hK
  have hK4 : K ≤ 4096 := by omega
  have hK0 : K ≠ 0 := by omega
  clear h0 h1 h2 h3 hq0 hq1 hq2 hq3 hH2 hK s1 s2 hWK
  go_enter Try.func5, Try.ntmps5
  go_wp2_with fail
  refine (hA0 _ (HP0.out.below HS0.out.below)).mono ?_
  rintro e wq0 ⟨rfl, hb⟩
  have HS1 := hide (HS0.out.next hb)
  clear hb HS0 hA0
  obtain ⟨i0, i1, i2⟩ := HS1.out.im3 4 rfl
  obtain ⟨j0, j1, j2⟩ := HS1.out.im3 3 rfl
  obtain ⟨k0, k1, k2⟩ := HS1.out.im3 2 rfl
  obtain ⟨l0, l1, l2⟩ := HS1.out.im3 1 rfl
  obtain ⟨z0, z1, z2⟩ := HS1.out.im3 0 rfl
  obtain ⟨e0, e1, e2⟩ := HS1.out.fr3 0 rfl
  go_wp2_with fail
  refine (hA1 _ (HP1.out.below HS1.out.below)).mono ?_
  rintro e wq1 ⟨rfl, hb⟩
  have HS2 := hide (HS1.out.next hb)
  clear hb HS1 hA1 i0 i1 i2 j0 j1 j2 k0 k1 k2 l0 l1 l2 z0 z1 z2 e0 e1 e2
  obtain ⟨i0, i1, i2⟩ := HS2.out.im3 4 rfl
  obtain ⟨j0, j1, j2⟩ := HS2.out.im3 3 rfl
  obtain ⟨k0, k1, k2⟩ := HS2.out.im3 2 rfl
  obtain ⟨l0, l1, l2⟩ := HS2.out.im3 1 rfl
  obtain ⟨z0, z1, z2⟩ := HS2.out.im3 0 rfl
  obtain ⟨e0, e1, e2⟩ := HS2.out.fr3 0 rfl
  go_wp2_with fail
  refine (hA2 _ (HP2.out.below HS2.out.below)).mono ?_
  rintro e wq2 ⟨rfl, hb⟩
  have HS3 := hide (HS2.out.next hb)
  clear hb HS2 hA2 i0 i1 i2 j0 j1 j2 k0 k1 k2 l0 l1 l2 z0 z1 z2 e0 e1 e2
  obtain ⟨i0, i1, i2⟩ := HS3.out.im3 4 rfl
  obtain ⟨j0, j1, j2⟩ := HS3.out.im3 3 rfl
  obtain ⟨k0, k1, k2⟩ := HS3.out.im3 2 rfl
  obtain ⟨l0, l1, l2⟩ := HS3.out.im3 1 rfl
  obtain ⟨z0, z1, z2⟩ := HS3.out.im3 0 rfl
  obtain ⟨e0, e1, e2⟩ := HS3.out.fr3 0 rfl
  go_wp2_with fail
  refine (hA3 _ (HP3.out.below HS3.out.below)).mono ?_
  rintro e wq3 ⟨rfl, hb⟩
  have HS4 := hide (HS3.out.next hb)
  clear hb HS3 hA3 i0 i1 i2 j0 j1 j2 k0 k1 k2 l0 l1 l2 z0 z1 z2 e0 e1 e2
  obtain ⟨i0, i1, i2⟩ := HS4.out.im3 4 rfl
  obtain ⟨j0, j1, j2⟩ := HS4.out.im3 3 rfl
  obtain ⟨k0, k1, k2⟩ := HS4.out.im3 2 rfl
  obtain ⟨l0, l1, l2⟩ := HS4.out.im3 1 rfl
  obtain ⟨z0, z1, z2⟩ := HS4.out.im3 0 rfl
  obtain ⟨e0, e1, e2⟩ := HS4.out.fr3 0 rfl
  go_wp2_with fail
  refine (cR0 _ (HP0.out.below HS4.out.below)).mono ?_
  rintro e v0 ⟨ra0, c0, r0, rfl, ho, h1, hb⟩
  obtain ⟨rfl, _⟩ : ra0 = some ⟨r0, 0, none⟩ ∧ True := by
    rcases ho with h | h
    · omega
    · exact ⟨h.1, trivial⟩
  have HR0 := hide ((HS4.out.own hb ho.v h1).box [.int .i64 W, .int .i64 H, .slice (some ⟨r0, 0, none⟩) Q c0] 26)
  generalize hx0 : v0.alloc (.cells [.int .i64 W, .int .i64 H, .slice (some ⟨r0, 0, none⟩) Q c0].toArray 26) = y0 at HR0
  have hy0 : v0.alloc (.cells #[.int .i64 W, .int .i64 H, .slice (some ⟨r0, 0, none⟩) Q c0] 26) = y0 := hx0
  clear hx0 cR0 hb ho h1 HS4 i0 i1 i2 j0 j1 j2 k0 k1 k2 l0 l1 l2 z0 z1 z2 e0 e1 e2
  obtain ⟨i0, i1, i2⟩ := HR0.out.im3 4 rfl
  go_wp2_with fail
  refine (cR1 _ (HP1.out.below HR0.out.below)).mono ?_
  rintro e v1 ⟨ra1, c1, r1, rfl, ho, h1, hb⟩
  obtain ⟨rfl, _⟩ : ra1 = some ⟨r1, 0, none⟩ ∧ True := by
    rcases ho with h | h
    · omega
    · exact ⟨h.1, trivial⟩
  have HR1 := hide ((HR0.out.own hb ho.v h1).box [.int .i64 W, .int .i64 H, .slice (some ⟨r1, 0, none⟩) Q c1] 26)
  generalize hx1 : v1.alloc (.cells [.int .i64 W, .int .i64 H, .slice (some ⟨r1, 0, none⟩) Q c1].toArray 26) = y1 at HR1
  have hy1 : v1.alloc (.cells #[.int .i64 W, .int .i64 H, .slice (some ⟨r1, 0, none⟩) Q c1] 26) = y1 := hx1
  clear hx1 cR1 hb ho h1 HR0 i0 i1 i2 hy0
  obtain ⟨i0, i1, i2⟩ := HR1.out.im3 4 rfl
  go_wp2_with fail
  refine (cR2 _ (HP2.out.below HR1.out.below)).mono ?_
  rintro e v2 ⟨ra2, c2, r2, rfl, ho, h1, hb⟩
  obtain ⟨rfl, _⟩ : ra2 = some ⟨r2, 0, none⟩ ∧ True := by
    rcases ho with h | h
    · omega
    · exact ⟨h.1, trivial⟩
  have HR2 := hide ((HR1.out.own hb ho.v h1).box [.int .i64 W, .int .i64 H2, .slice (some ⟨r2, 0, none⟩) K c2] 26)
  generalize hx2 : v2.alloc (.cells [.int .i64 W, .int .i64 H2, .slice (some ⟨r2, 0, none⟩) K c2].toArray 26) = y2 at HR2
  have hy2 : v2.alloc (.cells #[.int .i64 W, .int .i64 H2, .slice (some ⟨r2, 0, none⟩) K c2] 26) = y2 := hx2
  clear hx2 cR2 hb ho h1 HR1 i0 i1 i2 hy1
  obtain ⟨i0, i1, i2⟩ := HR2.out.im3 4 rfl
  go_wp2_with fail
  refine (cR3 _ (HP3.out.below HR2.out.below)).mono ?_
  rintro e v3 ⟨ra3, c3, r3, rfl, ho, h1, hb⟩
  obtain ⟨rfl, _⟩ : ra3 = some ⟨r3, 0, none⟩ ∧ True := by
    rcases ho with h | h
    · omega
    · exact ⟨h.1, trivial⟩
  have HR3 := hide ((HR2.out.own hb ho.v h1).box [.int .i64 W, .int .i64 H2, .slice (some ⟨r3, 0, none⟩) K c3] 26)
  generalize hx3 : v3.alloc (.cells [.int .i64 W, .int .i64 H2, .slice (some ⟨r3, 0, none⟩) K c3].toArray 26) = y3 at HR3
  have hy3 : v3.alloc (.cells #[.int .i64 W, .int .i64 H2, .slice (some ⟨r3, 0, none⟩) K c3] 26) = y3 := hx3
  clear hx3 cR3 hb ho h1 HR2 i0 i1 i2 hy2
  obtain ⟨i0, i1, i2⟩ := HR3.out.im3 6 rfl
  go_wp2_with fail
  refine (hnew _).mono ?_
  rintro e v4 ⟨rfl, hr, hb, hs⟩
  have HR4 := hide ((HR3.out.own hb hr.v (.inr (by omega))).box [.int .i64 W, .int .i64 H2, .slice (some ⟨y3.heap.size + 1, 0, none⟩) K K] 26)
  generalize hx4 : v4.alloc (.cells [.int .i64 W, .int .i64 H2, .slice (some ⟨y3.heap.size + 1, 0, none⟩) K K].toArray 26) = y4 at HR4
  have hy4 : v4.alloc (.cells #[.int .i64 W, .int .i64 H2, .slice (some ⟨y3.heap.size + 1, 0, none⟩) K K] 26) = y4 := hx4
  clear hx4 hnew hr hb hs HR3 i0 i1 i2 hy3
  generalize hB : y3.heap.size + 1 = B at *
  obtain ⟨p0, p1, p2⟩ := HR4.out.im3 4 rfl
  go_wp2_with fail
  clear p0 p1 p2 hy4 hw2 t0' t1' t4'
  have c0' : (fun k => Value.int .i64 (curF Q f0 f1 f2 f3 0 k)) = (fun _ => Value.int .i64 0) := by
    funext j; unfold curF; split <;> rw [if_neg (by omega)]
  go_loopw [16, 17, 18, 19] (fun cnt i _ _ wr => ∃ q : Nat, q ≤ Q ∧ i = .int .i64 q ∧ cnt = .int .i64 (cntF Q f0 f1 f2 f3 q) ∧ St w [(v4.heap.size, [.int .i64 W, .int .i64 H2, .slice (some ⟨B, 0, none⟩) K K]), (v3.heap.size, [.int .i64 W, .int .i64 H2, .slice (some ⟨r3, 0, none⟩) K c3]), (v2.heap.size, [.int .i64 W, .int .i64 H2, .slice (some ⟨r2, 0, none⟩) K c2]), (v1.heap.size, [.int .i64 W, .int .i64 H, .slice (some ⟨r1, 0, none⟩) Q c1]), (v0.heap.size, [.int .i64 W, .int .i64 H, .slice (some ⟨r0, 0, none⟩) Q c0]), (w.heap.size + 4, [.int .i64 0, .int .i64 0, .slice none 0 0]), (w.heap.size + 3, [.int .i64 W, .int .i64 H2, .slice a3 K cap3]), (w.heap.size + 2, [.int .i64 W, .int .i64 H2, .slice a2 K cap2]), (w.heap.size + 1, [.int .i64 W, .int .i64 H, .slice a1 Q cap1]), (w.heap.size, [.int .i64 W, .int .i64 H, .slice a0 Q cap0])] [(some ⟨B, 0, none⟩, B, K, fun k => .int .i64 (curF Q f0 f1 f2 f3 q k)), (some ⟨r3, 0, none⟩, r3, K, fun k => .int .i64 (resF f3 k)), (some ⟨r2, 0, none⟩, r2, K, fun k => .int .i64 (resF f2 k)), (some ⟨r1, 0, none⟩, r1, Q, fun k => .int .i64 (resF f1 k)), (some ⟨r0, 0, none⟩, r0, Q, fun k => .int .i64 (resF f0 k))] wr) (fun _ i _ _ _ => Q - (intOf i).toNat)
  case atStart => exact ⟨0, by omega, rfl, rfl, by rw [c0']; exact HR4.out⟩
  case round =>
    obtain ⟨q, hq, rfl, rfl, hst⟩ := hrel
    have HSr := hide hst
    have hcl := cntF_le Q f0 f1 f2 f3 q
    clear hst HR4 c0' HP0 HP1 HP2 HP3
    by_cases hlt : q < Q
    · obtain ⟨K2, hK2⟩ : ∃ K2, K2 = q + Q := ⟨_, rfl⟩
      have hqK : q < K := by have := HKQ.out; omega
      have hK2K : K2 < K := by have := HKQ.out; omega
      have neo := HSr.out.neB hK0 0 rfl
      have net := HSr.out.neB hK0 1 rfl
      have nes := HSr.out.neB hK0 2 rfl
      have neg := HSr.out.neB hK0 3 rfl
      have nep := HSr.out.neB hK0 4 rfl
      have nr3 := HSr.out.neO hK0 0 rfl (by have := HKQ.out; omega)
      have nr2 := HSr.out.neO hK0 1 rfl (by have := HKQ.out; omega)
      have nr1 := HSr.out.neO hK0 2 rfl (by have := HKQ.out; omega)
      have nr0 := HSr.out.neO hK0 3 rfl (by have := HKQ.out; omega)
      have ob := (HSr.out.im3 0 rfl).2.2
      have tb := (HSr.out.im3 1 rfl).2.2
      have sb := (HSr.out.im3 2 rfl).2.2
      have gb := (HSr.out.im3 3 rfl).2.2
      have pb := (HSr.out.im3 4 rfl).2.2
      have sq := rowAt (HSr.out.nthO 2 rfl) hqK
      have s2 := rowAt (HSr.out.nthO 2 rfl) hK2K
      have tq := rowAt (HSr.out.nthO 1 rfl) hqK
      have t2 := rowAt (HSr.out.nthO 1 rfl) hK2K
      have pq := rowAt (HSr.out.nthO 4 rfl) hlt
      have gq := rowAt (HSr.out.nthO 3 rfl) hlt
      have hidx : IntKind.i64.wrap ((q : Int) + (Q : Int)) = (K2 : Int) := by rw [IntKind.wrap_i64]; omega
      have g1 : (K2 : Int) < (K : Int) := by omega
      have g2 : (0 : Int) ≤ (K2 : Int) := by omega
      have g3 : (q : Int) < (K : Int) := by omega
      have g4 : (q : Int) < (Q : Int) := by omega
      have eA : res (resF f2 q * resF f3 K2 - resF f2 K2 * resF f3 q) = uA Q f0 f1 f2 f3 q := by rw [hK2]; exact res_sub _ _ _ _
      have eC : res (resF f0 q * resF f3 K2 - resF f1 q * resF f2 K2) = crs (f0 q) (f2 K2) (f1 q) (f3 K2) := by rw [show crs (f0 q) (f2 K2) (f1 q) (f3 K2) = res (f0 q * f3 K2 - f1 q * f2 K2) from by unfold crs; rw [Int.mul_comm (f2 K2)]]; exact res_sub _ _ _ _
      have eD : res (resF f2 q * resF f1 q - resF f3 q * resF f0 q) = crs (f2 q) (f0 q) (f3 q) (f1 q) := by rw [show crs (f2 q) (f0 q) (f3 q) (f1 q) = res (f2 q * f1 q - f3 q * f0 q) from by unfold crs; rw [Int.mul_comm (f0 q)]]; exact res_sub _ _ _ _
      have eU : uA Q f0 f1 f2 f3 q = crs (f2 q) (f2 K2) (f3 q) (f3 K2) := by rw [hK2]; rfl
      have e1 : u1 Q f0 f1 f2 f3 q = slv1 (f2 q) (f2 K2) (f3 q) (f3 K2) (f0 q) (f1 q) := by rw [hK2]; rfl
      have e2 : u2 Q f0 f1 f2 f3 q = slv2 (f2 q) (f2 K2) (f3 q) (f3 K2) (f0 q) (f1 q) := by rw [hK2]; rfl
      unfold slv1 at e1
      unfold slv2 at e2
      rw [← eU] at e1 e2
      have HSame := hide (fun h0 => curF_same (Q := Q) (f0 := f0) (f1 := f1) (f2 := f2) (f3 := f3) hlt h0)
      have HStep := hide (curF_step (Q := Q) (f0 := f0) (f1 := f1) (f2 := f2) (f3 := f3) hlt)
      have HCn : Hid (cntF Q f0 f1 f2 f3 (q + 1) = cntF Q f0 f1 f2 f3 q + (if uA Q f0 f1 f2 f3 q = 0 then 1 else 0)) := rfl
      rw [← hK2] at HStep
      have bA0 := res_bd (f2 q)
      have bA1 := res_bd (f2 K2)
      have bB0 := res_bd (f3 q)
      have bB1 := res_bd (f3 K2)
      have bC0 := res_bd (f0 q)
      have bD0 := res_bd (f1 q)
      change 0 ≤ resF f2 q ∧ resF f2 q < 12289 at bA0
      change 0 ≤ resF f2 K2 ∧ resF f2 K2 < 12289 at bA1
      change 0 ≤ resF f3 q ∧ resF f3 q < 12289 at bB0
      change 0 ≤ resF f3 K2 ∧ resF f3 K2 < 12289 at bB1
      change 0 ≤ resF f0 q ∧ resF f0 q < 12289 at bC0
      change 0 ≤ resF f1 q ∧ resF f1 q < 12289 at bD0
      clear eU hK2
      generalize crs (f0 q) (f2 K2) (f1 q) (f3 K2) = C2 at *
      generalize crs (f2 q) (f0 q) (f3 q) (f1 q) = C3 at *
      generalize hvA0 : resF f2 q = A0 at *
      have EA0 := hide hvA0
      clear hvA0
      generalize hvA1 : resF f2 K2 = A1 at *
      have EA1 := hide hvA1
      clear hvA1
      generalize hvB0 : resF f3 q = B0 at *
      have EB0 := hide hvB0
      clear hvB0
      generalize hvB1 : resF f3 K2 = B1 at *
      have EB1 := hide hvB1
      clear hvB1
      generalize hvC0 : resF f0 q = C0 at *
      have EC0 := hide hvC0
      clear hvC0
      generalize hvD0 : resF f1 q = D0 at *
      have ED0 := hide hvD0
      clear hvD0
      generalize u1 Q f0 f1 f2 f3 q = S1 at *
      generalize u2 Q f0 f1 f2 f3 q = S2 at *
      generalize uA Q f0 f1 f2 f3 q = AP at *
      generalize cntF Q f0 f1 f2 f3 q = CN at *
      obtain ⟨X1, m1, m2, m3, m4⟩ := diff2 A0 B1 A1 B0 bA0 bB1 bA1 bB0
      obtain ⟨X2, n1, n2, n3, n4⟩ := diff2 C0 B1 D0 A1 bC0 bB1 bD0 bA1
      obtain ⟨X3, o1, o2, o3, o4⟩ := diff2 A0 D0 B0 C0 bA0 bD0 bB0 bC0
      have cA := l1Mod_res X1
      have cC := l1Mod_res X2
      have cD := l1Mod_res X3
      rw [m4, eA] at cA
      rw [n4, eC] at cC
      rw [o4, eD] at cD
      have uA' : 0 ≤ C2 ∧ C2 < 12289 := by rw [← eC]; exact res_bd _
      have uB' : 0 ≤ C3 ∧ C3 < 12289 := by rw [← eD]; exact res_bd _
      clear eA eC eD bA0 bA1 bB0 bB1 bC0 bD0 m4 n4 o4
      go_upto_region 13 with fail
      have HSd := hide HSr.out.drew
      clear HSr
      go_region_held (fun w' => w'.cell? ⟨v3.heap.size, 2, none⟩ = some (.slice (some ⟨r3, 0, none⟩) K c3) ∧ w'.cell? ⟨v2.heap.size, 2, none⟩ = some (.slice (some ⟨r2, 0, none⟩) K c2) ∧ w'.cell? ⟨r2, q, none⟩ = some (.int .i64 A0) ∧ w'.cell? ⟨r2, K2, none⟩ = some (.int .i64 A1) ∧ w'.cell? ⟨r3, q, none⟩ = some (.int .i64 B0) ∧ w'.cell? ⟨r3, K2, none⟩ = some (.int .i64 B1))
        (exact ⟨tb, sb, sq, s2, tq, t2⟩)
        (first | (go_at_call 15; (with_reducible refine (cA _).mono ?_); rintro e w8 ⟨rfl, rfl⟩))
      all_goals
        generalize wr.drew = wx at *
        clear ob tb sb gb pb sq s2 tq t2 pq gq cA m1 m2 m3
        by_cases hap : AP = 0
        · subst hap
          have HSn : Hid (St w [(v4.heap.size, [.int .i64 W, .int .i64 H2, .slice (some ⟨B, 0, none⟩) K K]), (v3.heap.size, [.int .i64 W, .int .i64 H2, .slice (some ⟨r3, 0, none⟩) K c3]), (v2.heap.size, [.int .i64 W, .int .i64 H2, .slice (some ⟨r2, 0, none⟩) K c2]), (v1.heap.size, [.int .i64 W, .int .i64 H, .slice (some ⟨r1, 0, none⟩) Q c1]), (v0.heap.size, [.int .i64 W, .int .i64 H, .slice (some ⟨r0, 0, none⟩) Q c0]), (w.heap.size + 4, [.int .i64 0, .int .i64 0, .slice none 0 0]), (w.heap.size + 3, [.int .i64 W, .int .i64 H2, .slice a3 K cap3]), (w.heap.size + 2, [.int .i64 W, .int .i64 H2, .slice a2 K cap2]), (w.heap.size + 1, [.int .i64 W, .int .i64 H, .slice a1 Q cap1]), (w.heap.size, [.int .i64 W, .int .i64 H, .slice a0 Q cap0])] [(some ⟨B, 0, none⟩, B, K, fun k => .int .i64 (curF Q f0 f1 f2 f3 (q + 1) k)), (some ⟨r3, 0, none⟩, r3, K, fun k => .int .i64 (resF f3 k)), (some ⟨r2, 0, none⟩, r2, K, fun k => .int .i64 (resF f2 k)), (some ⟨r1, 0, none⟩, r1, Q, fun k => .int .i64 (resF f1 k)), (some ⟨r0, 0, none⟩, r0, Q, fun k => .int .i64 (resF f0 k))] wx) := by rw [HSame.out rfl]; exact HSd.out
          have HCm : Hid (cntF Q f0 f1 f2 f3 (q + 1) = CN + 1) := HCn.out
          clear HSame HStep HCn HSd e1 e2 cC cD n1 n2 n3 o1 o2 o3
          go_wp2_with fail
          exact ⟨⟨q + 1, by omega, rfl, by rw [HCm.out]; rfl, HSn.out⟩, by simp [intOf]; omega⟩
        · have hap' : (AP == 0) = false := by simpa using hap
          rw [if_neg hap] at e1 e2
          have HCm : Hid (cntF Q f0 f1 f2 f3 (q + 1) = CN) := by
            have := HCn.out
            rw [if_neg hap] at this
            exact this
          have cP : ∀ w, Calls Try.prog 16 #[.int .i64 AP, .int .i64 12287] w fun o w' => o = .returned (.int .i64 (inv AP)) ∧ w' = w := specPower_any AP 12287
          have uV := inv_bd AP
          generalize inv AP = V at *
          obtain ⟨Y2, y1, y2⟩ := prod2 C2 V uA' uV
          obtain ⟨Y3, z1, z2⟩ := prod2 C3 V uB' uV
          rw [← e1] at y2
          rw [← e2] at z2
          clear HSame HCn e1 e2 uA' uB' uV
          go_wp2_with fail
          refine (cP _).mono ?_
          rintro e wx ⟨rfl, rfl⟩
          clear cP
          have ob := (HSd.out.im3 0 rfl).2.2
          have tb := (HSd.out.im3 1 rfl).2.2
          have sb := (HSd.out.im3 2 rfl).2.2
          have gb := (HSd.out.im3 3 rfl).2.2
          have pb := (HSd.out.im3 4 rfl).2.2
          have sq := rowAt (HSd.out.nthO 2 rfl) hqK
          rw [EA0.out] at sq
          have s2 := rowAt (HSd.out.nthO 2 rfl) hK2K
          rw [EA1.out] at s2
          have tq := rowAt (HSd.out.nthO 1 rfl) hqK
          rw [EB0.out] at tq
          have t2 := rowAt (HSd.out.nthO 1 rfl) hK2K
          rw [EB1.out] at t2
          have pq := rowAt (HSd.out.nthO 4 rfl) hlt
          rw [EC0.out] at pq
          have gq := rowAt (HSd.out.nthO 3 rfl) hlt
          rw [ED0.out] at gq
          obtain ⟨⟨k1, hm1⟩, hf1⟩ := slotAt (HSd.out.nthO 0 rfl) hqK
          have HS17 := hide (HSd.out.put hqK (.int .i64 S1)).drew
          go_upto_region 17 with fail
          go_region_held (fun w' => w'.cell? ⟨v4.heap.size, 2, none⟩ = some (.slice (some ⟨B, 0, none⟩) K K) ∧ w'.cell? ⟨v0.heap.size, 2, none⟩ = some (.slice (some ⟨r0, 0, none⟩) Q c0) ∧ w'.cell? ⟨v3.heap.size, 2, none⟩ = some (.slice (some ⟨r3, 0, none⟩) K c3) ∧ w'.cell? ⟨v1.heap.size, 2, none⟩ = some (.slice (some ⟨r1, 0, none⟩) Q c1) ∧ w'.cell? ⟨v2.heap.size, 2, none⟩ = some (.slice (some ⟨r2, 0, none⟩) K c2) ∧ w'.cell? ⟨r0, q, none⟩ = some (.int .i64 C0) ∧ w'.cell? ⟨r3, K2, none⟩ = some (.int .i64 B1) ∧ w'.cell? ⟨r1, q, none⟩ = some (.int .i64 D0) ∧ w'.cell? ⟨r2, K2, none⟩ = some (.int .i64 A1))
            ((first | exact ⟨ob, pb, tb, gb, sb, pq, t2, gq, s2⟩ | (refine ⟨?_, ?_, ?_, ?_, ?_, ?_, ?_, ?_, ?_⟩ <;> (refine Eq.trans (World.cell?_setCell_other wx _ _ _ (by simp; try omega)) ?_; first | exact ob | exact pb | exact tb | exact gb | exact sb | exact pq | exact t2 | exact gq | exact s2))))
            (first | (go_at_call 15; (with_reducible refine (cC _).mono ?_); rintro e w8 ⟨rfl, rfl⟩))
          all_goals
            generalize (wx.setCell ⟨B, q, none⟩ (.int .i64 S1)).drew = wy at *
            clear ob tb sb gb pb sq s2 tq t2 pq gq cC n1 n2 n3 hm1 hf1 HSd y1 y2
            have ob := (HS17.out.im3 0 rfl).2.2
            have tb := (HS17.out.im3 1 rfl).2.2
            have sb := (HS17.out.im3 2 rfl).2.2
            have gb := (HS17.out.im3 3 rfl).2.2
            have pb := (HS17.out.im3 4 rfl).2.2
            have sq := rowAt (HS17.out.nthO 2 rfl) hqK
            rw [EA0.out] at sq
            have s2 := rowAt (HS17.out.nthO 2 rfl) hK2K
            rw [EA1.out] at s2
            have tq := rowAt (HS17.out.nthO 1 rfl) hqK
            rw [EB0.out] at tq
            have t2 := rowAt (HS17.out.nthO 1 rfl) hK2K
            rw [EB1.out] at t2
            have pq := rowAt (HS17.out.nthO 4 rfl) hlt
            rw [EC0.out] at pq
            have gq := rowAt (HS17.out.nthO 3 rfl) hlt
            rw [ED0.out] at gq
            obtain ⟨⟨k2, hm2⟩, hf2⟩ := slotAt (HS17.out.nthO 0 rfl) hK2K
            have HS18 := hide (HS17.out.put hK2K (.int .i64 S2)).drew
            go_upto_region 18 with fail
            go_region_held (fun w' => w'.cell? ⟨v4.heap.size, 2, none⟩ = some (.slice (some ⟨B, 0, none⟩) K K) ∧ w'.cell? ⟨v2.heap.size, 2, none⟩ = some (.slice (some ⟨r2, 0, none⟩) K c2) ∧ w'.cell? ⟨v1.heap.size, 2, none⟩ = some (.slice (some ⟨r1, 0, none⟩) Q c1) ∧ w'.cell? ⟨v3.heap.size, 2, none⟩ = some (.slice (some ⟨r3, 0, none⟩) K c3) ∧ w'.cell? ⟨v0.heap.size, 2, none⟩ = some (.slice (some ⟨r0, 0, none⟩) Q c0) ∧ w'.cell? ⟨r2, q, none⟩ = some (.int .i64 A0) ∧ w'.cell? ⟨r1, q, none⟩ = some (.int .i64 D0) ∧ w'.cell? ⟨r3, q, none⟩ = some (.int .i64 B0) ∧ w'.cell? ⟨r0, q, none⟩ = some (.int .i64 C0))
              ((first | exact ⟨ob, sb, gb, tb, pb, sq, gq, tq, pq⟩ | (refine ⟨?_, ?_, ?_, ?_, ?_, ?_, ?_, ?_, ?_⟩ <;> (refine Eq.trans (World.cell?_setCell_other wy _ _ _ (by simp; try omega)) ?_; first | exact ob | exact sb | exact gb | exact tb | exact pb | exact sq | exact gq | exact tq | exact pq))))
              (first | (go_at_call 15; (with_reducible refine (cD _).mono ?_); rintro e w8 ⟨rfl, rfl⟩))
            all_goals
              generalize (wy.setCell ⟨B, K2, none⟩ (.int .i64 S2)).drew = wv at *
              have HSn : Hid (St w [(v4.heap.size, [.int .i64 W, .int .i64 H2, .slice (some ⟨B, 0, none⟩) K K]), (v3.heap.size, [.int .i64 W, .int .i64 H2, .slice (some ⟨r3, 0, none⟩) K c3]), (v2.heap.size, [.int .i64 W, .int .i64 H2, .slice (some ⟨r2, 0, none⟩) K c2]), (v1.heap.size, [.int .i64 W, .int .i64 H, .slice (some ⟨r1, 0, none⟩) Q c1]), (v0.heap.size, [.int .i64 W, .int .i64 H, .slice (some ⟨r0, 0, none⟩) Q c0]), (w.heap.size + 4, [.int .i64 0, .int .i64 0, .slice none 0 0]), (w.heap.size + 3, [.int .i64 W, .int .i64 H2, .slice a3 K cap3]), (w.heap.size + 2, [.int .i64 W, .int .i64 H2, .slice a2 K cap2]), (w.heap.size + 1, [.int .i64 W, .int .i64 H, .slice a1 Q cap1]), (w.heap.size, [.int .i64 W, .int .i64 H, .slice a0 Q cap0])] [(some ⟨B, 0, none⟩, B, K, fun k => .int .i64 (curF Q f0 f1 f2 f3 (q + 1) k)), (some ⟨r3, 0, none⟩, r3, K, fun k => .int .i64 (resF f3 k)), (some ⟨r2, 0, none⟩, r2, K, fun k => .int .i64 (resF f2 k)), (some ⟨r1, 0, none⟩, r1, Q, fun k => .int .i64 (resF f1 k)), (some ⟨r0, 0, none⟩, r0, Q, fun k => .int .i64 (resF f0 k))] wv) := by
                have e : (fun k => Value.int .i64 (curF Q f0 f1 f2 f3 (q + 1) k)) = fun j => if j = K2 then Value.int .i64 S2 else (if j = q then Value.int .i64 S1 else Value.int .i64 (curF Q f0 f1 f2 f3 q j)) := by
                  funext j
                  rw [HStep.out]
                  show Value.int .i64 (if j = K2 then S2 else if j = q then S1 else curF Q f0 f1 f2 f3 q j) = _
                  split
                  · rfl
                  · split <;> rfl
                rw [e]
                exact HS18.out
              clear ob tb sb gb pb sq s2 tq t2 pq gq cD o1 o2 o3 hm2 hf2 HS17 HS18 HStep z1 z2
              go_wp2_with fail
              exact ⟨⟨q + 1, by omega, rfl, by rw [HCm.out], HSn.out⟩, by simp [intOf]; omega⟩
    · obtain rfl : q = Q := by omega
      obtain ⟨k0, k1, k2⟩ := HSr.out.im3 0 rfl
      obtain ⟨z0, z1, z2⟩ := HSr.out.im3 5 rfl
      obtain ⟨e0, e1, e2⟩ := HSr.out.fr3 5 rfl
      generalize hCN : cntF q f0 f1 f2 f3 q = CN at *
      clear hCN
      go_wp2_with fail
      exact bodyPost_ret (v := .tuple #[im W H2 (some ⟨B, 0, none⟩) K K, .int .i64 CN]) (by simp [results, Try.results5, go_sem, z0, z1, z2]) rfl ((St.fill3' (L1 := [_, _, _, _, _]) HSr.out _ _ _).imRI W H2 K CN)

end Go.Proofs.Ytjjoeojikbbnfaa
