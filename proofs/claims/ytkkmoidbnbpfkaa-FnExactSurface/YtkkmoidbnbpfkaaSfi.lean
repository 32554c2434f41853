/- Surfaces: the program. -/
import Derived.Test.YtkkmoidbnbpfkaaSac
import Derived.Test.YtkkmoidbnbpfkaaVlj
namespace Go.Proofs.Ytkkmoidbnbpfkaa
open Go.RowKit

set_option maxRecDepth 100000 in
set_option maxHeartbeats 4000000 in
theorem implSurface_any (X Y Z : Int) (a : Option Addr) (n cap : Nat) (f : Nat → Int) (hl : n ≤ 1048576) (w : World) (h : Px a n f w) :
    Calls Try.prog 7 #[vVolume X Y Z a n cap] w (FcR (srfN X Y Z n f) (srfF X Y Z n f) w) := by
  obtain ⟨wv, hwv⟩ : ∃ wv, w.alloc (.cells #[.int .i64 X, .int .i64 Y, .int .i64 Z, .slice a n cap] 28) = wv := ⟨_, rfl⟩
  have hS : St w [(w.heap.size, [.int .i64 X, .int .i64 Y, .int .i64 Z, .slice a n cap])] [] wv := by rw [← hwv]; exact (St.start w).box [.int .i64 X, .int .i64 Y, .int .i64 Z, .slice a n cap] 28
  have hz : wv.heap.size = w.heap.size + 1 := by rw [← hwv]; simp
  have HSv := hide hS
  have HWV := hide hwv
  have HZ : Hid (w.heap.size < wv.heap.size) := by show _ < _; omega
  have HP : Hid (Px a n f wv) := h.below hS.below
  have c := fun w' q => implVolumeOk_any X Y Z a n cap f hl w' q
  clear h hwv hS hz
  have HBx : Hid (∀ wr, Below wv.heap.size wv wr → wr.cell? ⟨w.heap.size, 0, none⟩ = some (.int .i64 X) ∧ wr.cell? ⟨w.heap.size, 1, none⟩ = some (.int .i64 Y) ∧ wr.cell? ⟨w.heap.size, 2, none⟩ = some (.int .i64 Z) ∧ wr.cell? ⟨w.heap.size, 3, none⟩ = some (.slice a n cap)) := by
    intro wr hb
    have q := (HSv.out.bx (w.heap.size, [.int .i64 X, .int .i64 Y, .int .i64 Z, .slice a n cap]) (by simp)).below hb HZ.out
    exact ⟨(q 0 _ rfl).1, (q 1 _ rfl).1, (q 2 _ rfl).1, (q 3 _ rfl).1⟩
  unfold srfN
  obtain ⟨v0, v1, v2, v3⟩ := HBx.out _ (Below.refl _ _)
  cases hq : volB X Y Z n f
  · rw [hq] at c
    rw [if_neg (by simp)]
    clear hq
    go_enter Try.func7, Try.ntmps7
    go_upto_region 1 with fail
    rw [HWV.out]
    go_wp2_with fail
    refine (c _ HP.out).mono ?_
    rintro e w1 ⟨rfl, hb⟩
    have HB1 := hide (bnext HSv.out.below (Nat.le_refl _) hb)
    clear hb v0 v1 v2 v3
    go_wp2_with fail
    go_ret
    exact ⟨_, _, 0, rfl, .inl rfl, .inl rfl, HB1.out⟩
  rw [hq] at c
  rw [if_pos rfl]
  obtain ⟨hX, hY, hZ, hn, hn2⟩ := volB_parts hq
  have HNn := hide hn
  clear hq hn
  go_enter Try.func7, Try.ntmps7
  go_upto_region 1 with fail
  rw [HWV.out]
  go_wp2_with fail
  refine (c _ HP.out).mono ?_
  rintro e w1 ⟨rfl, hb⟩
  have HB1 := hide hb
  obtain ⟨u0, u1, u2, u3⟩ := HBx.out _ hb
  clear hb v0 v1 v2 v3 c HWV
  go_wp2_with fail
  clear u0 u1 u2 u3
  go_loopw [3, 12] (fun s i wr => ∃ (k m : Nat) (v : Value), k ≤ n ∧ i = .int .i64 k ∧ v = s ∧ wr.ownsRow wv.heap.size 39 5 v m (ints (srf X Y Z f k)) ∧ Below wv.heap.size wv wr) (fun _ i _ => n - (intOf i).toNat)
  case atStart => exact ⟨0, 0, _, by omega, rfl, rfl, World.ownsRow_nil _ _ _ _, HB1.out⟩
  case round =>
    obtain ⟨k, m, vv0, hk, rfl, rfl, ho, hb⟩ := hrel
    clear HB1
    have HO := hide ho
    have HB := hide hb
    clear ho hb
    by_cases hlt : k < n
    · obtain ⟨v0, v1, v2, v3⟩ := HBx.out _ HB.out
      obtain ⟨b, off, rfl, hy⟩ := (HP.out.below HB.out).at hlt
      have HK : Hid (srf X Y Z f (k + 1) = if 0 < f k then srf X Y Z f k ++ sfP X Y Z f (k % X) (k / X % Y) (k / X / Y) 6 else srf X Y Z f k) := rfl
      by_cases hpos : 0 < f k
      case neg =>
        rw [if_neg hpos] at HK
        generalize f k = vk at *
        go_wp2_with fail
        exact ⟨⟨k + 1, m, vv0, by omega, rfl, rfl, by rw [HK.out]; exact HO.out, HB.out⟩, by simp [intOf]; omega⟩
      rw [if_pos hpos] at HK
      obtain ⟨hx, hyy, hzz⟩ := spot3 hX hY HNn.out hlt
      have e1 : (k : Int).tmod X = k % X := Int.tmod_eq_emod_of_nonneg (by omega)
      have e2 : (k : Int).tdiv X = k / X := Int.tdiv_eq_ediv_of_nonneg (by omega)
      have hq0 : 0 ≤ (k : Int) / X := Int.ediv_nonneg (by omega) (by omega)
      have hq1 : (k : Int) / X ≤ k := Int.ediv_le_self X (by omega)
      have e3 : ((k : Int) / X).tmod Y = k / X % Y := Int.tmod_eq_emod_of_nonneg hq0
      have e4 : ((k : Int) / X).tdiv Y = k / X / Y := Int.tdiv_eq_ediv_of_nonneg hq0
      have w2 : IntKind.i64.wrap ((k : Int) / X) = k / X := by rw [IntKind.wrap_i64]; omega
      have w4 : IntKind.i64.wrap ((k : Int) / X / Y) = k / X / Y := by rw [IntKind.wrap_i64]; omega
      have hX0 : X ≠ 0 := by omega
      have hY0 : Y ≠ 0 := by omega
      have hlen := srf_len X Y Z f k
      have cW := fun w' => whereIn_any X Y Z (some ⟨b, off, none⟩) n cap hX hY k (by omega) w'
      generalize hgx : (k : Int) % X = x at *
      generalize hgq : (k : Int) / X = q at *
      generalize hgy : q % Y = y at *
      generalize hgz : q / Y = z at *
      clear hgx hgq hgy hgz
      have cA := fun w' ho hb => appendBare_any X Y Z (some ⟨b, off, none⟩) n cap f hX hY hZ HNn.out x y z (by omega) (by omega) (by omega) wv.heap.size vv0 m (srf X Y Z f k) (by omega) w' ho hb
      generalize srf X Y Z f k = L at *
      generalize f k = vk at *
      have SK : Hid (_ ∧ _ ∧ _ ∧ _) := ⟨v0, v1, v2, v3⟩
      have HPq : Hid (∀ wq wt, Below wv.heap.size wv wq → Below wv.heap.size wq wt → Px (some ⟨b, off, none⟩) n f wt) := fun wq wt h1 h2 => HP.out.below (h1.trans h2)
      go_upto_region 8 with fail
      clear v0 v1 v2 v3 hy
      go_region_held3 (fun (w' : World) => w'.cell? ⟨w.heap.size, 0, none⟩ = some (.int .i64 X) ∧ w'.cell? ⟨w.heap.size, 1, none⟩ = some (.int .i64 Y) ∧ w'.cell? ⟨w.heap.size, 2, none⟩ = some (.int .i64 Z) ∧ w'.cell? ⟨w.heap.size, 3, none⟩ = some (.slice (some ⟨b, off, none⟩) n cap))
        (first | exact SKb.out | exact SKw.out | exact SK.out)
        (first
          | (go_at_call 19; (with_reducible refine (cW _).mono ?_); rintro e w4 ⟨rfl, hb4⟩; have HB4 := hide (bnext HB.out.drew (Nat.le_refl _) hb4); have HO4 := hide (ownsRow_below' HO.out (bnext (Below.refl _ _).drew (Nat.le_refl _) hb4)); have SKw : Hid (_ ∧ _ ∧ _ ∧ _) := HBx.out _ HB4.out; clear hb4)
          | (go_at_call 18; refine (cA _ HO4.out HB4.out.size (fun wt hb => HPq.out _ wt HB4.out hb)).mono ?_; rintro e w5 ⟨vv1, rfl, m1, ho5, hb5⟩; have HO5 := hide ho5; have HB5 := hide (HB4.out.trans hb5); have SKb : Hid (_ ∧ _ ∧ _ ∧ _) := HBx.out _ HB5.out; clear ho5 hb5))
      go_wp2_with fail
      exact ⟨⟨k + 1, m1, vv1, by omega, rfl, rfl, by rw [HK.out]; exact HO5.out, HB5.out⟩, by simp [intOf]; omega⟩
    · obtain rfl : k = n := by omega
      obtain ⟨a9, cap9, b9, rfl, how, hB9⟩ := ow_faces HO.out
      have hll := own_len HO.out
      have HR : Hid ((srf X Y Z f k).length / 5 = m) := by show _ / _ = _; omega
      have HF : Hid (FcR m (srfF X Y Z k f) w (.returned (.slice a9 m cap9)) wr) := ⟨a9, cap9, b9, rfl, how, by have := HZ.out; omega, bnext HSv.out.below (Nat.le_refl _) HB.out⟩
      clear how hll hB9 HO HB
      go_wp2_with fail
      go_ret
      rw [HR.out]
      exact HF.out

end Go.Proofs.Ytkkmoidbnbpfkaa
