/- The program's writer of bits. -/
import Derived.Test.YtebcclmilplfcaaPks
import Derived.Test.YtebcclmilplfcaaPic
import Derived.BigRegion
namespace Go.Proofs.Ytebcclmilplfcaa
open Go.RowKit

/-- a writer of bits at block p: these bits are written -/
def BW (p : Nat) (L : List Int) (w : World) : Prop :=
  ∃ v, Bx p [v, .int .i64 L.length] w ∧ w.ownsRow (p + 1) 5 1 v (nB L.length) (bys (fl (byA L) (nB L.length))) ∧ p < w.heap.size ∧ isBits L

theorem own_partsU {w : World} {B n : Nat} {v : Value} {L : List Int} (h : w.ownsRow B 5 1 v n (bys L)) (hn : 0 < n) :
    ∃ b cap, v = .slice (some ⟨b, 0, none⟩) n cap ∧ B ≤ b ∧ ∀ k, k < n → w.cell? ⟨b, k, none⟩ = some (.int .u8 (L.getD k 0)) ∧ w.frozen? ⟨b, k, none⟩ = false := by
  obtain ⟨a, cap, b, hv, ho, hB⟩ := own_u8 h
  rcases ho with h0 | ⟨ha, hr⟩
  · omega
  · exact ⟨b, cap, by rw [hv, ha], by omega, fun k hk => hr k (by omega)⟩
theorem own_setU {w : World} {B n b cap : Nat} {L : List Int} (h : w.ownsRow B 5 1 (.slice (some ⟨b, 0, none⟩) n cap) n (bys L)) (k : Nat) (z : Int) :
    (w.setCell ⟨b, k, none⟩ (.int .u8 z)).ownsRow B 5 1 (.slice (some ⟨b, 0, none⟩) n cap) n (bys (L.set k z)) := by
  obtain ⟨h1, h2⟩ := h
  refine ⟨by rw [bys_length] at h1 ⊢; rw [List.length_set]; exact h1, ?_⟩
  rcases h2 with ⟨hv, _⟩ | ⟨b', cap', cur, hv, hB, hh, hn, hc, hs, ht⟩
  · cases hv
  · cases hv
    refine .inr ⟨b, cap, cur.setIfInBounds k (.int .u8 z), rfl, hB, ?_, hn, hc, by rw [Array.size_setIfInBounds]; exact hs, ?_⟩
    · rw [heap_setCell_same w b k cur 5 _ hh]
    · rw [Array.toList_setIfInBounds, List.take_set, ht]
      unfold bys
      rw [List.map_set]
theorem owns_far {w : World} {B n m : Nat} {e : TypeId} {v : Value} {xs : List Value} (h : w.ownsRow B e m v n xs) {p : Addr} (hp : p.block < B) (u : Value) : (w.setCell p u).ownsRow B e m v n xs := by
  obtain ⟨h1, h2⟩ := h
  refine ⟨h1, ?_⟩
  rcases h2 with h2 | ⟨b', cap', cur, hv, hB, hh, hn, hc, hs, ht⟩
  · exact .inl h2
  · exact .inr ⟨b', cap', cur, hv, hB, by rw [heap_setCell_other w p b' u (by omega)]; exact hh, hn, hc, hs, ht⟩
theorem list_ext0 {L M : List Int} (hl : L.length = M.length) (h : ∀ k, k < L.length → L.getD k 0 = M.getD k 0) : L = M := by
  refine List.ext_getElem hl fun k h1 h2 => ?_
  have := h k h1
  rw [List.getD_eq_getElem?_getD, List.getElem?_eq_getElem h1, List.getD_eq_getElem?_getD, List.getElem?_eq_getElem h2] at this
  exact this
theorem getD_set (L : List Int) (k j : Nat) (z : Int) (hk : k < L.length) : (L.set k z).getD j 0 = if j = k then z else L.getD j 0 := by
  simp only [List.getD_eq_getElem?_getD]
  by_cases e : j = k
  · subst e; rw [if_pos rfl, List.getElem?_set_self hk]; rfl
  · rw [if_neg e, List.getElem?_set_ne (by omega)]
/-- the bytes behind one bit more -/
theorem fl_byA_snoc (L : List Int) (b : Int) : (fl (byA L) (L.length / 8 + 1)).set (L.length / 8) (byA L (L.length / 8) + b * 2 ^ (L.length % 8)) = fl (byA (L ++ [b])) (nB (L ++ [b]).length) := by
  have hn : nB (L ++ [b]).length = L.length / 8 + 1 := by unfold nB; rw [List.length_append]; simp; omega
  rw [hn]
  refine list_ext0 (by rw [List.length_set, fl_len, fl_len]) fun k hk => ?_
  rw [List.length_set, fl_len] at hk
  rw [getD_set _ _ _ _ (by rw [fl_len]; omega), fl_at _ _ _ hk, fl_at _ _ _ hk, byA_snoc]
  by_cases e : k = L.length / 8
  · rw [if_pos e, if_pos e, e]
  · rw [if_neg e, if_neg e]
/-- a byte of 0 ahead of the next bit, where the bytes are full -/
theorem fl_byA_full (L : List Int) (h : L.length % 8 = 0) : fl (byA L) (nB L.length) ++ [0] = fl (byA L) (L.length / 8 + 1) ∧ nB L.length = L.length / 8 := by
  have hn : nB L.length = L.length / 8 := by unfold nB; omega
  refine ⟨?_, hn⟩
  rw [hn]
  simp only [fl]
  rw [byA_far (L := L) (j := L.length / 8) (by omega)]

set_option maxRecDepth 100000 in
set_option maxHeartbeats 2000000 in
theorem put_any (p : Nat) (L : List Int) (x : Int) (m : Nat) (hm : m ≤ 62) (hlm : L.length + m ≤ 8000000) (w : World) (h : BW p L w) :
    Calls Try.prog 44 #[.pointer (some ⟨p, 0, none⟩), .int .i64 x, .int .i64 m] w fun e w' => e = .returned (.tuple #[]) ∧ BW p (L ++ bitK x m) w' ∧ Below p w w' := by
  go_enter Try.func44, Try.ntmps44
  go_wp2
  go_loopw [6, 8] (fun _ j wr => ∃ k : Nat, k ≤ m ∧ j = .int .i64 k ∧ BW p (L ++ bitK x k) wr ∧ Below p w wr) (fun _ j _ => m - (intOf j).toNat)
  case atStart => exact ⟨0, by omega, rfl, by simpa [bitK, fl] using h, Below.refl _ _⟩
  case round =>
    obtain ⟨k, hk, rfl, hw, hb⟩ := hrel
    by_cases hlt : k < m
    · have hXl : (L ++ bitK x k).length = L.length + k := by rw [List.length_append, bitK_len]
      have HZ : Hid (L ++ bitK x (k + 1) = L ++ bitK x k ++ [x / 2 ^ k % 2]) := by show _ = _; rw [bitK_step, List.append_assoc]
      have hX8 : (L ++ bitK x k).length ≤ 7999999 := by omega
      clear h hXl
      generalize L ++ bitK x k = X at *
      obtain ⟨v, hx, ho, hp, hbi⟩ := hw
      by_cases h8 : X.length % 8 = 0
      · obtain ⟨hfu, hn⟩ := fl_byA_full X h8
        have i0 := (hx 0 _ rfl).1
        have i1 := (hx 1 _ rfl).1
        have f0 := (hx 0 _ rfl).2
        have d8 : (((X.length : Nat) : Int) % 8 == 0) = true := by simp; omega
        have HO := hide ho
        have HX := hide hx
        have HB := hide hb
        have HP := hide hp
        have hq7 : nB X.length + 1 ≤ 1048576 := by unfold nB; omega
        generalize hFL : fl (byA X) (nB X.length) = FL at *
        generalize hNB : nB X.length = NB at *
        clear ho hx hb hp
        go_wp2_with (refine growU _ rfl _ _ rfl (p + 1) v NB FL rfl wr HO.out (Below.refl _ _) (by have := HP.out; omega) [0] 1 rfl rfl hq7 ?_)
        intro v' w' ho' hb' hs'
        have hx1 := HX.out.below hb' (by omega)
        have hx2 := hx1.set 0 v'
        have ho2 := owns_far ho' (p := ⟨p, 0, none⟩) (by show p < p + 1; omega) v'
        have hb2 : Below p w (w'.setCell ⟨p, 0, none⟩ v') := (HB.out.trans (hb'.mono (by omega))).setCell (Nat.le_refl _) _
        have hp2 : p < (w'.setCell ⟨p, 0, none⟩ v').heap.size := by have := HP.out; simp; omega
        obtain ⟨b, cap, rfl, hB, hcs⟩ := own_partsU ho2 (by omega)
        have hx : Bx p [.slice (some ⟨b, 0, none⟩) (X.length / 8 + 1) cap, .int .i64 X.length] _ := hx2
        have j0 := (hx1 0 _ rfl).1
        have g0 := (hx1 0 _ rfl).2
        clear ho' hb' hs' hx1 hx2 HX HB HP HO hfu hn hFL
        go_upto_region 5 with fail
        clear j0 g0 i0 i1 f0 d8
        generalize World.setCell w' _ _ = w3 at *
        have ho := ho2
        have hb := hb2
        have hp := hp2
        clear ho2 hb2 hp2
        have hc := (hcs (X.length / 8) (by omega)).1
        rw [fl_at _ _ _ (by omega)] at hc
        have fr := (hcs (X.length / 8) (by omega)).2
        clear hcs
        have e1 : ((X.length : Nat) : Int).tmod 8 = ((X.length % 8 : Nat) : Int) := by rw [Int.tmod_eq_emod_of_nonneg (by omega)]; simp
        have e2 : ((X.length : Nat) : Int).tdiv 8 = ((X.length / 8 : Nat) : Int) := by rw [Int.tdiv_eq_ediv_of_nonneg (by omega)]; simp
        have e3 : IntKind.i64.wrap ((X.length / 8 : Nat) : Int) = ((X.length / 8 : Nat) : Int) := by rw [IntKind.wrap_i64]; omega
        have e4 : IntKind.i64.wrap ((X.length % 8 : Nat) : Int) = ((X.length % 8 : Nat) : Int) := by rw [IntKind.wrap_i64]; omega
        have hlow := byA_low hbi
        have ht7 : X.length % 8 ≤ 7 := by omega
        have hq9 : X.length / 8 < X.length / 8 + 1 := by omega
        have HV : Hid (bits .or .u8 (byA X (X.length / 8)) (bits .and .i64 (x / 2 ^ k) 1 % 256 * 2 ^ (X.length % 8) % 256) = byA X (X.length / 8) + x / 2 ^ k % 2 * 2 ^ (X.length % 8)) := by
          show _ = _
          have := or_bit _ _ (by omega) hlow.1 hlow.2 _ (bit_01 x k)
          rw [IntKind.wrap_u8] at this
          rw [i64_and1, show x / 2 ^ k % 2 % 256 = x / 2 ^ k % 2 by omega]
          exact this
        have hbt := bit_01 x k
        have hbi2 := hbi.snoc hbt
        have hset := own_setU ho (X.length / 8) (byA X (X.length / 8) + x / 2 ^ k % 2 * 2 ^ (X.length % 8))
        rw [fl_byA_snoc] at hset
        have hlen1 : (X ++ [x / 2 ^ k % 2]).length = X.length + 1 := by simp
        have HFIN : Hid (∀ wz : World, wz = (w3.setCell ⟨b, X.length / 8, none⟩ (.int .u8 (byA X (X.length / 8) + x / 2 ^ k % 2 * 2 ^ (X.length % 8)))).drew → Bx p [.slice (some ⟨b, 0, none⟩) (X.length / 8 + 1) cap, .int .i64 X.length] wz ∧ Below p w wz ∧ (∀ c, c = X.length + 1 → BW p (X ++ [x / 2 ^ k % 2]) (wz.setCell ⟨p, 1, none⟩ (.int .i64 (c : Nat))))) := by
          rintro wz rfl
          have hbx : Bx p [.slice (some ⟨b, 0, none⟩) (X.length / 8 + 1) cap, .int .i64 X.length] ((w3.setCell ⟨b, X.length / 8, none⟩ (.int .u8 (byA X (X.length / 8) + x / 2 ^ k % 2 * 2 ^ (X.length % 8)))).drew) := fun j u hj => by
            have := hx j u hj
            refine ⟨?_, by simpa using this.2⟩
            show World.cell? (World.setCell _ _ _) _ = _
            rw [World.cell?_setCell_other _ _ _ _ (by simp; try omega)]
            exact this.1
          refine ⟨hbx, (hb.setCell (by show p ≤ b; omega) _).drew, ?_⟩
          rintro c rfl
          refine ⟨.slice (some ⟨b, 0, none⟩) (X.length / 8 + 1) cap, ?_, ?_, ?_, hbi2⟩
          · rw [hlen1]
            exact hbx.set 1 _
          · rw [show nB (X ++ [x / 2 ^ k % 2]).length = X.length / 8 + 1 by rw [hlen1]; unfold nB; omega] at hset ⊢
            exact owns_far (hset.drew) (by show p < p + 1; omega) _
          · simpa using hp
        clear hset hbi2 hbi ho hp hb hbt hlen1 hlow
        generalize byA X (X.length / 8) = Y at *
        have i0 := (hx 0 _ rfl).1
        have i1 := (hx 1 _ rfl).1
        clear hx
        generalize X ++ [x / 2 ^ k % 2] = X1 at *
        clear h8
        generalize hq8 : X.length / 8 = q at *
        generalize ht8 : X.length % 8 = t at *
        generalize hl8 : X.length = l at *
        clear hq8 ht8 hl8
        go_region
        rw [HV.out]
        obtain ⟨hbz, hb, HN⟩ := HFIN.out _ rfl
        generalize World.drew _ = wz at *
        have j1 := (hbz 1 _ rfl).1
        have g1 := (hbz 1 _ rfl).2
        have HB2 := hide hb
        have HN2 := hide (HN _ rfl)
        have HB3 : Hid (Below p w (wz.setCell ⟨p, 1, none⟩ (.int .i64 ((l + 1 : Nat) : Int)))) := hb.setCell (Nat.le_refl _) _
        clear hbz hb HN HFIN HV
        have hcast : ((l + 1 : Nat) : Int) = (l : Int) + 1 := by omega
        rw [hcast] at HN2 HB3
        clear hcast
        go_wp2
        go_roundw
        case rel => exact ⟨k + 1, by omega, by go_num, by rw [HZ.out]; exact HN2.out, HB3.out⟩
        case measure => simp [intOf]; omega
      · have hn : nB X.length = X.length / 8 + 1 := by unfold nB; omega
        rw [hn] at ho
        obtain ⟨b, cap, rfl, hB, hcs⟩ := own_partsU ho (by omega)
        have hc := (hcs (X.length / 8) (by omega)).1
        rw [fl_at _ _ _ (by omega)] at hc
        have fr := (hcs (X.length / 8) (by omega)).2
        clear hcs
        have e1 : ((X.length : Nat) : Int).tmod 8 = ((X.length % 8 : Nat) : Int) := by rw [Int.tmod_eq_emod_of_nonneg (by omega)]; simp
        have e2 : ((X.length : Nat) : Int).tdiv 8 = ((X.length / 8 : Nat) : Int) := by rw [Int.tdiv_eq_ediv_of_nonneg (by omega)]; simp
        have e3 : IntKind.i64.wrap ((X.length / 8 : Nat) : Int) = ((X.length / 8 : Nat) : Int) := by rw [IntKind.wrap_i64]; omega
        have e4 : IntKind.i64.wrap ((X.length % 8 : Nat) : Int) = ((X.length % 8 : Nat) : Int) := by rw [IntKind.wrap_i64]; omega
        have hlow := byA_low hbi
        have ht7 : X.length % 8 ≤ 7 := by omega
        have hq7 : X.length / 8 < X.length / 8 + 1 := by omega
        have HV : Hid (bits .or .u8 (byA X (X.length / 8)) (bits .and .i64 (x / 2 ^ k) 1 % 256 * 2 ^ (X.length % 8) % 256) = byA X (X.length / 8) + x / 2 ^ k % 2 * 2 ^ (X.length % 8)) := by
          show _ = _
          have := or_bit _ _ (by omega) hlow.1 hlow.2 _ (bit_01 x k)
          rw [IntKind.wrap_u8] at this
          rw [i64_and1, show x / 2 ^ k % 2 % 256 = x / 2 ^ k % 2 by omega]
          exact this
        have hbt := bit_01 x k
        have hbi2 := hbi.snoc hbt
        have hset := own_setU ho (X.length / 8) (byA X (X.length / 8) + x / 2 ^ k % 2 * 2 ^ (X.length % 8))
        rw [fl_byA_snoc] at hset
        have hlen1 : (X ++ [x / 2 ^ k % 2]).length = X.length + 1 := by simp
        have HFIN : Hid (∀ wz : World, wz = (wr.setCell ⟨b, X.length / 8, none⟩ (.int .u8 (byA X (X.length / 8) + x / 2 ^ k % 2 * 2 ^ (X.length % 8)))).drew → Bx p [.slice (some ⟨b, 0, none⟩) (X.length / 8 + 1) cap, .int .i64 X.length] wz ∧ Below p w wz ∧ (∀ c, c = X.length + 1 → BW p (X ++ [x / 2 ^ k % 2]) (wz.setCell ⟨p, 1, none⟩ (.int .i64 (c : Nat))))) := by
          rintro wz rfl
          have hbx : Bx p [.slice (some ⟨b, 0, none⟩) (X.length / 8 + 1) cap, .int .i64 X.length] ((wr.setCell ⟨b, X.length / 8, none⟩ (.int .u8 (byA X (X.length / 8) + x / 2 ^ k % 2 * 2 ^ (X.length % 8)))).drew) := fun j u hj => by
            have := hx j u hj
            refine ⟨?_, by simpa using this.2⟩
            show World.cell? (World.setCell _ _ _) _ = _
            rw [World.cell?_setCell_other _ _ _ _ (by simp; try omega)]
            exact this.1
          refine ⟨hbx, (hb.setCell (by show p ≤ b; omega) _).drew, ?_⟩
          rintro c rfl
          refine ⟨.slice (some ⟨b, 0, none⟩) (X.length / 8 + 1) cap, ?_, ?_, ?_, hbi2⟩
          · rw [hlen1]
            exact hbx.set 1 _
          · rw [show nB (X ++ [x / 2 ^ k % 2]).length = X.length / 8 + 1 by rw [hlen1]; unfold nB; omega] at hset ⊢
            exact owns_far (hset.drew) (by show p < p + 1; omega) _
          · simpa using hp
        clear hset hbi2 hbi ho hp hb hbt hlen1 hlow
        generalize byA X (X.length / 8) = Y at *
        have i0 := (hx 0 _ rfl).1
        have i1 := (hx 1 _ rfl).1
        clear hx
        generalize X ++ [x / 2 ^ k % 2] = X1 at *
        have h8i : ¬ ((X.length : Nat) : Int) % 8 = 0 := by omega
        have d8 : (((X.length : Nat) : Int) % 8 == 0) = false := by simp; omega
        go_upto_region 5 with fail
        clear h8
        generalize hq8 : X.length / 8 = q at *
        generalize ht8 : X.length % 8 = t at *
        generalize hl8 : X.length = l at *
        clear hq8 ht8 hl8
        go_region
        rw [HV.out]
        obtain ⟨hbz, hb, HN⟩ := HFIN.out _ rfl
        generalize World.drew _ = wz at *
        have j1 := (hbz 1 _ rfl).1
        have g1 := (hbz 1 _ rfl).2
        have HB2 := hide hb
        have HN2 := hide (HN _ rfl)
        have HB3 : Hid (Below p w (wz.setCell ⟨p, 1, none⟩ (.int .i64 ((l + 1 : Nat) : Int)))) := hb.setCell (Nat.le_refl _) _
        clear hbz hb HN HFIN HV
        have hcast : ((l + 1 : Nat) : Int) = (l : Int) + 1 := by omega
        rw [hcast] at HN2 HB3
        clear hcast
        go_wp2
        go_roundw
        case rel => exact ⟨k + 1, by omega, by go_num, by rw [HZ.out]; exact HN2.out, HB3.out⟩
        case measure => simp [intOf]; omega
    · obtain rfl : k = m := by omega
      go_wp2
      go_end0
      exact ⟨rfl, hw, hb⟩

end Go.Proofs.Ytebcclmilplfcaa
