/- Cubes that are turned: the specification. -/
import Derived.Test.YtkgkdhocmglklaaDoorTwi
import Derived.Test.YtkgkdhocmglklaaDoorTrk
import Derived.Deep.RegionHeld
import Derived.BigRegion
namespace Go.Proofs.YtkgkdhocmglklaaDoor
open Go.RowKit

/-- a list of which one number is another -/
def updN (s : Nat → Int) (k : Nat) (v : Int) (q : Nat) : Int := if q = k then v else s q
theorem Row.updN {b n : Nat} {s : Nat → Int} {w : World} (h : Row b n s w) {k : Nat} (hk : k < n) (v : Int) : Row b n (updN s k v) (w.setCell ⟨b, k, none⟩ (.int .i64 v)) := fun q hq => by
  have h0 := h q hq
  refine ⟨?_, by simpa using h0.2⟩
  by_cases e : q = k
  · subst e
    rw [World.cell?_setCell_same _ _ _ (h q hq).1]
    unfold Go.Proofs.YtkgkdhocmglklaaDoor.updN
    simp
  · rw [World.cell?_setCell_other _ _ _ _ (by simp; try omega)]
    unfold Go.Proofs.YtkgkdhocmglklaaDoor.updN
    rw [if_neg e]
    exact h0.1
/-- an own list, one number of which is written -/
theorem St.upd {w0 : World} {L : List BoxT} {O : List OwnT} {w : World} {b n : Nat} {s : Nat → Int} (h : St w0 L ((some ⟨b, 0, none⟩, b, n, fun q => .int .i64 (s q)) :: O) w) {k : Nat} (hk : k < n) (v : Int) :
    St w0 L ((some ⟨b, 0, none⟩, b, n, fun q => .int .i64 (updN s k v q)) :: O) (w.setCell ⟨b, k, none⟩ (.int .i64 v)) := by
  have h0 : n ≠ 0 := by omega
  refine h.mark0 h0 ((Kept.refl b w).setCell rfl _) ?_
  rcases h.nthO 0 rfl with h1 | ⟨_, h1⟩
  · exact absurd h1 h0
  · exact (Row.updN h1 hk v).v
/-- a cell of an own list -/
theorem St.atO {w0 : World} {L : List BoxT} {O : List OwnT} {w : World} {b n : Nat} {s : Nat → Int} (h : St w0 L ((some ⟨b, 0, none⟩, b, n, fun q => .int .i64 (s q)) :: O) w) {k : Nat} (hk : k < n) :
    w.cell? ⟨b, k, none⟩ = some (.int .i64 (s k)) ∧ w.frozen? ⟨b, k, none⟩ = false := by
  rcases h.nthO 0 rfl with h1 | ⟨_, h1⟩
  · omega
  · exact h1 k hk

/-- a volume is answered -/
def VoR (rX rY rZ : Int) (rN : Nat) (s : Nat → Int) (w : World) (e : Ending) (w' : World) : Prop :=
  ∃ a cap b, e = .returned (vVolume rX rY rZ a rN cap) ∧ Ow a b rN s w' ∧ (rN = 0 ∨ w.heap.size ≤ b) ∧ Below w.heap.size w w'

/-- is a cube turned -/
def tvB (X Y Z : Int) (n : Nat) (f : Nat → Int) (a b c d : Int) : Bool := cubB X Y Z n f && tkB a b c d
def tvN (X Y Z : Int) (n : Nat) (f : Nat → Int) (a b c d : Int) : Nat := if tvB X Y Z n f a b c d = true then n else 0
def tvX (X Y Z : Int) (n : Nat) (f : Nat → Int) (a b c d : Int) : Int := if tvB X Y Z n f a b c d = true then X else 0

theorem cubB_parts {X Y Z : Int} {n : Nat} {f : Nat → Int} (h : cubB X Y Z n f = true) : X = Y ∧ X = Z ∧ (1 ≤ X ∧ X ≤ 32) ∧ (n : Int) = X * X * X ∧ n ≤ 32768 := by
  unfold cubB at h
  simp only [Bool.and_eq_true, decide_eq_true_eq] at h
  obtain ⟨h1, rfl, rfl⟩ := h
  obtain ⟨a, b, c, d, e⟩ := volB_parts h1
  exact ⟨rfl, rfl, a, d, e⟩

set_option maxRecDepth 100000 in
set_option maxHeartbeats 8000000 in
theorem specTurnVolume_any (X Y Z : Int) (o : Option Addr) (n cap : Nat) (f : Nat → Int) (hl : n ≤ 1048576) (a b c d : Int) (ha : I64 a) (hb' : I64 b) (hc : I64 c) (hd : I64 d) (w : World) (h : Px o n f w) :
    Calls Tryd.prog 7 #[vVolume X Y Z o n cap, tv a b c d] w fun e w' => VoR (tvX X Y Z n f a b c d) (tvX X Y Z n f a b c d) (tvX X Y Z n f a b c d) (tvN X Y Z n f a b c d) (tvs (tg a b c d X) f n) w e w' := by
  have HS0 := hide ((((St.start w).box [.int .i64 X, .int .i64 Y, .int .i64 Z, .slice o n cap] 26).box' [.int .i64 a, .int .i64 b, .int .i64 c, .int .i64 d] 28 (b := w.heap.size + 1) (by simp)).box' [.int .i64 0, .int .i64 0, .int .i64 0, .slice none 0 0] 26 (b := w.heap.size + 2) (by simp))
  have cC := l10Cube_any X Y Z o n cap f hl _ (h.below HS0.out.below)
  have cT := fun w' => specTurnOk_any a b c d ha hb' hc hd w'
  have HP := hide h
  clear ha hb' hc hd h
  unfold tvX tvN tvB
  cases hq : cubB X Y Z n f
  · rw [hq] at cC
    simp only [Bool.false_and, Bool.false_eq_true, if_false]
    clear hq HP cT
    go_enter Tryd.func7, Tryd.ntmps7
    go_wp2_with fail
    refine cC.mono ?_
    rintro e w1 ⟨rfl, hb⟩
    have HS1 := hide (HS0.out.next hb)
    obtain ⟨i0, i1, i2, i3⟩ := HS1.out.im4 0 rfl
    obtain ⟨e0, e1, e2, e3⟩ := HS1.out.fr4 0 rfl
    have HE := hide (St.fill (L1 := []) (St.fill (L1 := []) (St.fill (L1 := []) (St.fill (L1 := []) HS1.out 0 (.int .i64 0)) 1 (.int .i64 0)) 2 (.int .i64 0)) 3 (.slice none 0 0))
    clear hb HS0 HS1 cC
    go_wp2_with fail
    exact bodyPost_ret (v := vVolume 0 0 0 none 0 0) (by simp [results, Tryd.results7, go_sem, i0, i1, i2, i3]) rfl ⟨none, 0, w1.heap.size, rfl, .inl rfl, .inl rfl, HE.out.below⟩
  rw [hq] at cC
  cases hp : tkB a b c d
  · simp only [hp] at cT
    simp only [Bool.and_false, Bool.false_eq_true, if_false]
    clear hq hp HP
    go_enter Tryd.func7, Tryd.ntmps7
    go_wp2_with fail
    refine cC.mono ?_
    rintro e w1 ⟨rfl, hb⟩
    have HS1 := hide (HS0.out.next hb)
    obtain ⟨i0, i1, i2, i3⟩ := HS1.out.im4 1 rfl
    clear hb HS0 cC
    go_wp2_with fail
    refine (cT _).mono ?_
    rintro e w2 ⟨rfl, hb⟩
    have HS2 := hide (HS1.out.next hb)
    clear i0 i1 i2 i3 HS1 hb cT
    obtain ⟨i0, i1, i2, i3⟩ := HS2.out.im4 0 rfl
    obtain ⟨e0, e1, e2, e3⟩ := HS2.out.fr4 0 rfl
    have HE := hide (St.fill (L1 := []) (St.fill (L1 := []) (St.fill (L1 := []) (St.fill (L1 := []) HS2.out 0 (.int .i64 0)) 1 (.int .i64 0)) 2 (.int .i64 0)) 3 (.slice none 0 0))
    clear HS2
    go_wp2_with fail
    exact bodyPost_ret (v := vVolume 0 0 0 none 0 0) (by simp [results, Tryd.results7, go_sem, i0, i1, i2, i3]) rfl ⟨none, 0, w2.heap.size, rfl, .inl rfl, .inl rfl, HE.out.below⟩
  simp only [hp] at cT
  simp only [Bool.and_self, if_true]
  obtain ⟨rfl, rfl, hX, hn, hn2⟩ := cubB_parts hq
  have HT := hide hp
  have HNn := hide hn
  clear hq hp hn
  have hmk := fun w' => make_px n hl w'
  go_enter Tryd.func7, Tryd.ntmps7
  go_wp2_with fail
  refine cC.mono ?_
  rintro e w1 ⟨rfl, hb⟩
  have HS1 := hide (HS0.out.next hb)
  obtain ⟨i0, i1, i2, i3⟩ := HS1.out.im4 1 rfl
  clear hb HS0 cC
  go_wp2_with fail
  refine (cT _).mono ?_
  rintro e w2 ⟨rfl, hb⟩
  have HS2 := hide (HS1.out.next hb)
  clear i0 i1 i2 i3 HS1 hb cT
  obtain ⟨i0, i1, i2, i3⟩ := HS2.out.im4 2 rfl
  have HS3 := hide ((HS2.out.own (bnew w2 (.cells (madeCells #[.int .i64 0] n) 2)) (row_new n w2).v (.inr (Nat.le_refl _))).box' [.int .i64 X, .int .i64 X, .int .i64 X, .slice (some ⟨w2.heap.size, 0, none⟩) n n] 26 (b := w2.heap.size + 1) (by simp))
  have hlB := HS2.out.below.size
  go_wp2_with fail
  clear HS2 i0 i1 i2 i3 hmk
  generalize w2.heap.size = B at *
  go_loopw [7] (fun i wr => ∃ k : Nat, k ≤ n ∧ i = .int .i64 k ∧ St w [(B + 1, [.int .i64 X, .int .i64 X, .int .i64 X, .slice (some ⟨B, 0, none⟩) n n]), (w.heap.size + 2, [.int .i64 0, .int .i64 0, .int .i64 0, .slice none 0 0]), (w.heap.size + 1, [.int .i64 a, .int .i64 b, .int .i64 c, .int .i64 d]), (w.heap.size, [.int .i64 X, .int .i64 X, .int .i64 X, .slice o n cap])] [(some ⟨B, 0, none⟩, B, n, fun q => .int .i64 (tvs (tg a b c d X) f k q))] wr) (fun i _ => n - (intOf i).toNat)
  case atStart => exact ⟨0, by omega, rfl, HS3.out⟩
  case round =>
    obtain ⟨k, hk, rfl, hs⟩ := hrel
    have HS := hide hs
    clear hs HS3
    by_cases hlt : k < n
    · have hn := HNn.out
      have hkX : (k : Int) < X * X * X := by omega
      obtain ⟨x0, y0, z0⟩ := kxyz hX.1 hkX
      have cG := fun w' => l10Take_any a b c d (2 * kx X k - X + 1) (2 * ky X k - X + 1) (2 * kz X k - X + 1) HT.out (by omega) (by omega) (by omega) w'
      obtain ⟨t0, t1, t2⟩ := take_mv HT.out (2 * kx X k - X + 1) (2 * ky X k - X + 1) (2 * kz X k - X + 1)
      simp only [t0, t1, t2] at cG
      obtain ⟨p0, p0', p0''⟩ := tp_in HT.out hX.1 hkX (i := 0) (by omega)
      obtain ⟨p1, p1', p1''⟩ := tp_in HT.out hX.1 hkX (i := 1) (by omega)
      obtain ⟨p2, p2', p2''⟩ := tp_in HT.out hX.1 hkX (i := 2) (by omega)
      obtain ⟨g0, g1⟩ := tg_in HT.out hX.1 hkX
      have d0 : (mv (mtx a b c d) 0 (2 * kx X k - X + 1) (2 * ky X k - X + 1) (2 * kz X k - X + 1) + X - 1).tdiv 2 = tp a b c d X 0 k := by rw [Int.tdiv_eq_ediv_of_nonneg (by omega)]; rfl
      have d1 : (mv (mtx a b c d) 1 (2 * kx X k - X + 1) (2 * ky X k - X + 1) (2 * kz X k - X + 1) + X - 1).tdiv 2 = tp a b c d X 1 k := by rw [Int.tdiv_eq_ediv_of_nonneg (by omega)]; rfl
      have d2 : (mv (mtx a b c d) 2 (2 * kx X k - X + 1) (2 * ky X k - X + 1) (2 * kz X k - X + 1) + X - 1).tdiv 2 = tp a b c d X 2 k := by rw [Int.tdiv_eq_ediv_of_nonneg (by omega)]; rfl
      have HG : Hid (tg a b c d X k = (tp a b c d X 2 k * X + tp a b c d X 1 k) * X + tp a b c d X 0 k) := rfl
      obtain ⟨G, hG⟩ : ∃ G : Nat, tg a b c d X k = G := ⟨(tg a b c d X k).toNat, by omega⟩
      have HU := hide (HS.out.drew)
      have hGn : G < n := by omega
      clear hn hkX
      have HNx : Hid (∀ q, tvs (tg a b c d X) f (k + 1) q = updN (tvs (tg a b c d X) f k) G (f k) q) := fun q => by
        show (if q = (tg a b c d X k).toNat then f k else _) = _
        rw [hG]; rfl
      rw [hG] at HG
      have e1 : (k : Int).tmod X = kx X k := Int.tmod_eq_emod_of_nonneg (by omega)
      have e2 : (k : Int).tdiv X = (k : Int) / X := Int.tdiv_eq_ediv_of_nonneg (by omega)
      have c0 : 0 ≤ (k : Int) / X := Int.ediv_nonneg (by omega) (by omega)
      have c1 : (k : Int) / X ≤ (k : Int) := Int.ediv_le_self X (by omega)
      have e3 : ((k : Int) / X).tmod X = ky X k := Int.tmod_eq_emod_of_nonneg c0
      have e4 : ((k : Int) / X).tdiv X = kz X k := Int.tdiv_eq_ediv_of_nonneg c0
      clear hG g0 g1 t0 t1 t2 HNn
      generalize kx X k = r at *
      generalize ky X k = s at *
      generalize kz X k = t at *
      generalize (k : Int) / X = q at *
      generalize mv (mtx a b c d) 0 (2 * r - X + 1) (2 * s - X + 1) (2 * t - X + 1) = m0 at *
      generalize mv (mtx a b c d) 1 (2 * r - X + 1) (2 * s - X + 1) (2 * t - X + 1) = m1 at *
      generalize mv (mtx a b c d) 2 (2 * r - X + 1) (2 * s - X + 1) (2 * t - X + 1) = m2 at *
      generalize tp a b c d X 0 k = P0 at *
      generalize tp a b c d X 1 k = P1 at *
      generalize tp a b c d X 2 k = P2 at *
      obtain ⟨T1, hT1⟩ : ∃ T, P2 * X = T := ⟨_, rfl⟩
      have b1 := mulB (A := 32) (B := 32) (by omega) (by omega) (show -32 ≤ X by omega) hX.2 (a := P2)
      rw [hT1] at b1 HG
      obtain ⟨T2, hT2⟩ : ∃ T, (T1 + P1) * X = T := ⟨_, rfl⟩
      have b2 := mulB (A := 2000) (B := 32) (by omega) (by omega) (show -32 ≤ X by omega) hX.2 (a := T1 + P1)
      rw [hT2] at b2 HG
      have v1 : IntKind.i64.wrap (P2 * X) = T1 := by rw [hT1, IntKind.wrap_i64]; omega
      have v2 : IntKind.i64.wrap (T1 + P1) = T1 + P1 := by rw [IntKind.wrap_i64]; omega
      have v3 : IntKind.i64.wrap ((T1 + P1) * X) = T2 := by rw [hT2, IntKind.wrap_i64]; omega
      have v4 : IntKind.i64.wrap (T2 + P0) = (G : Int) := by have := HG.out; rw [IntKind.wrap_i64]; omega
      have a1 : IntKind.i64.wrap q = q := by rw [IntKind.wrap_i64]; omega
      have a2 : IntKind.i64.wrap t = t := by rw [IntKind.wrap_i64]; omega
      have a3 : IntKind.i64.wrap (2 * r) = 2 * r := by rw [IntKind.wrap_i64]; omega
      have a4 : IntKind.i64.wrap (2 * r - X) = 2 * r - X := by rw [IntKind.wrap_i64]; omega
      have a5 : IntKind.i64.wrap (2 * r - X + 1) = 2 * r - X + 1 := by rw [IntKind.wrap_i64]; omega
      have a6 : IntKind.i64.wrap (2 * s) = 2 * s := by rw [IntKind.wrap_i64]; omega
      have a7 : IntKind.i64.wrap (2 * s - X) = 2 * s - X := by rw [IntKind.wrap_i64]; omega
      have a8 : IntKind.i64.wrap (2 * s - X + 1) = 2 * s - X + 1 := by rw [IntKind.wrap_i64]; omega
      have a9 : IntKind.i64.wrap (2 * t) = 2 * t := by rw [IntKind.wrap_i64]; omega
      have a10 : IntKind.i64.wrap (2 * t - X) = 2 * t - X := by rw [IntKind.wrap_i64]; omega
      have a11 : IntKind.i64.wrap (2 * t - X + 1) = 2 * t - X + 1 := by rw [IntKind.wrap_i64]; omega
      obtain ⟨i0, i1, i2, i3⟩ := HS.out.im4 3 rfl
      have hX0 : X ≠ 0 := by omega
      have hltk : (k : Int) < (n : Int) := by omega
      have SDs : Hid (_ ∧ _ ∧ _ ∧ _) := ⟨HU.out.cell 2 rfl 0 rfl, HU.out.cell 2 rfl 1 rfl, HU.out.cell 2 rfl 2 rfl, HU.out.cell 2 rfl 3 rfl⟩
      clear HT hT1 hT2 HG
      go_upto_region 8 with fail
      go_region_held (fun (w' : World) => w'.cell? ⟨w.heap.size + 1, 0, none⟩ = some (.int .i64 a) ∧ w'.cell? ⟨w.heap.size + 1, 1, none⟩ = some (.int .i64 b) ∧ w'.cell? ⟨w.heap.size + 1, 2, none⟩ = some (.int .i64 c) ∧ w'.cell? ⟨w.heap.size + 1, 3, none⟩ = some (.int .i64 d))
        (first | (with_reducible exact SDs.out) | exact SDs.out | (with_reducible exact S0s.out))
        ((go_at_call 22; (with_reducible refine (cG _).mono ?_); rintro e q0 ⟨rfl, h0⟩; have S0 := HU.out.next h0; clear h0; have S0s : Hid (_ ∧ _ ∧ _ ∧ _) := ⟨S0.cell 2 rfl 0 rfl, S0.cell 2 rfl 1 rfl, S0.cell 2 rfl 2 rfl, S0.cell 2 rfl 3 rfl⟩))
      clear SDs S0s cG HU HS a1 a2 a3 a4 a5 a6 a7 a8 a9 a10 a11 i0 i1 i2 i3 e1 e2 e3 e4
      have n0 : IntKind.i64.wrap (m0 + X) = m0 + X := by rw [IntKind.wrap_i64]; omega
      have n1 : IntKind.i64.wrap (m1 + X) = m1 + X := by rw [IntKind.wrap_i64]; omega
      have n2 : IntKind.i64.wrap (m2 + X) = m2 + X := by rw [IntKind.wrap_i64]; omega
      have o0 : IntKind.i64.wrap (m0 + X - 1) = m0 + X - 1 := by rw [IntKind.wrap_i64]; omega
      have o1 : IntKind.i64.wrap (m1 + X - 1) = m1 + X - 1 := by rw [IntKind.wrap_i64]; omega
      have o2 : IntKind.i64.wrap (m2 + X - 1) = m2 + X - 1 := by rw [IntKind.wrap_i64]; omega
      have w0 : IntKind.i64.wrap P0 = P0 := by rw [IntKind.wrap_i64]; omega
      have w9 : IntKind.i64.wrap P1 = P1 := by rw [IntKind.wrap_i64]; omega
      have w8 : IntKind.i64.wrap P2 = P2 := by rw [IntKind.wrap_i64]; omega
      obtain ⟨i0, i1, i2, i3⟩ := S0.im4 3 rfl
      obtain ⟨j0, j1, j2, j3⟩ := S0.im4 0 rfl
      obtain ⟨b9, o9, rfl, zk⟩ := (HP.out.below S0.below).at hlt
      obtain ⟨dG, fG⟩ := S0.atO hGn
      have HE := hide (S0.upd hGn (f k))
      clear S0 p0 p1 p2 p0' p1' p2' p0'' p1'' p2'' b1 b2 x0 y0 z0 c0 c1 HP
      generalize f k = F at *
      go_wp2_with fail
      go_region
      all_goals
        go_wp2_with fail
        refine ⟨⟨k + 1, by omega, by go_num, ?_⟩, by simp [intOf]; omega⟩
        simp only [HNx.out]
        first | exact HE.out | exact HE.out.drew
    · obtain rfl : k = n := by omega
      obtain ⟨i0, i1, i2, i3⟩ := HS.out.im4 3 rfl
      obtain ⟨j0, j1, j2, j3⟩ := HS.out.im4 0 rfl
      obtain ⟨y0, y1, y2, y3⟩ := HS.out.im4 1 rfl
      obtain ⟨e0, e1, e2, e3⟩ := HS.out.fr4 1 rfl
      have HE := hide (St.fill (L1 := [_]) (St.fill (L1 := [_]) (St.fill (L1 := [_]) (St.fill (L1 := [_]) HS.out 0 (.int .i64 X)) 1 (.int .i64 X)) 2 (.int .i64 X)) 3 (.slice (some ⟨B, 0, none⟩) k k))
      clear HS HP HT
      go_wp2_with fail
      exact bodyPost_ret (v := vVolume X X X (some ⟨B, 0, none⟩) k k) (by simp [results, Tryd.results7, go_sem, y0, y1, y2, y3]) rfl ⟨some ⟨B, 0, none⟩, k, B, rfl, (HE.out.nthO 0 rfl).i, .inr hlB, HE.out.below⟩

end Go.Proofs.YtkgkdhocmglklaaDoor
