/- Folding: the program, where it can be. -/
import Derived.Test.YtpeocbhnnpppjaaFol
import Derived.Deep.RegionHeld3
import Derived.Deep.AppendLies
namespace Go.Proofs.Ytpeocbhnnpppjaa
open Go.RowKit

theorem allB_at' {f : Nat → Int} : ∀ {n : Nat}, allB f n = true → ∀ k, k < n → -1000000000 ≤ f k ∧ f k ≤ 1000000000
  | n + 1, h, k, hk => by
    simp only [allB, Bool.and_eq_true] at h
    by_cases e : k = n
    · have := h.2
      unfold inB at this
      simp only [Bool.and_eq_true, decide_eq_true_eq] at this
      rw [e]; exact this
    · exact allB_at' h.1 k (by omega)

set_option maxRecDepth 100000 in
set_option maxHeartbeats 2000000 in
theorem implFold_yes (W H : Int) (Q M : Nat) (hH : H = 2 * (M : Int)) (hQ : 1 ≤ Q) (hQ2 : Q ≤ 2048) (a : Option Addr) (n cap : Nat) (f : Nat → Int) (a' : Option Addr) (cap' : Nat) (g : Nat → Int) (hn : n = 2 * Q) (w : World) (h : Px a n f w) (h' : Px a' n g w) (hq : okB W H n f = true) (hq' : okB W H n g = true) :
    Calls Try.prog 7 #[im W H a n cap, im W H a' n cap'] w (ImR W M Q (foldF Q f g) w) := by
  have hA := implOk_any W H a n cap f (by omega)
  have hA' := implOk_any W H a' n cap' g (by omega)
  have HP := hide h
  have HP' := hide h'
  have HS0 := hide (St.three w W H (.slice a n cap) W H (.slice a' n cap'))
  clear h h'
  have hWb : (W != W) = false := by simp
  have hHb : (H != H) = false := by simp
  have hp := (okB_parts hq).2.1
  obtain ⟨p1, p2⟩ := side_bounds hp
  have ht : (H % 2 != 0) = false := by simp; omega
  have hd1 : H / 2 = (M : Int) := by omega
  have hall := (okB_parts hq).2.2.2
  have hall' := (okB_parts hq').2.2.2
  have cz := sameSize_any W H a n cap W H a' n cap'
  rw [decide_eq_true rfl, decide_eq_true rfl] at cz
  have hdv : (n : Int) / 2 = (Q : Int) := by omega
  have hdt : (n : Int).tdiv 2 = (Q : Int) := by rw [Int.tdiv_eq_ediv_of_nonneg (by omega)]; exact hdv
  rw [hq] at hA
  rw [hq'] at hA'
  have HN := hide hn
  have HA := hide hall
  have HA' := hide hall'
  obtain ⟨b, off, rfl, hbl⟩ := HP.out.lt (by omega)
  obtain ⟨b', off', rfl, hbl'⟩ := HP'.out.lt (by omega)
  obtain ⟨ti, hi1, hi2, hi3, hi4⟩ := info2
  have HI1 := hide hi1
  clear hq hq' hH hp hall hall' hn hi1
  go_enter Try.func7, Try.ntmps7
  go_wp2_with fail
  refine (hA _ (HP.out.below HS0.out.below)).mono ?_
  rintro e w1 ⟨rfl, hb⟩
  have HS1 := hide (HS0.out.next hb)
  obtain ⟨z0, z1, z2⟩ := HS1.out.im3 0 rfl
  obtain ⟨e0, e1, e2⟩ := HS1.out.fr3 0 rfl
  obtain ⟨j0, j1, j2⟩ := HS1.out.im3 1 rfl
  obtain ⟨i0, i1, i2⟩ := HS1.out.im3 2 rfl
  clear hA hb HS0
  go_wp2_with fail
  refine (hA' _ (HP'.out.below HS1.out.below)).mono ?_
  rintro e w2 ⟨rfl, hb⟩
  have HS2 := hide (HS1.out.next hb)
  clear i0 i1 i2 j0 j1 j2 z0 z1 z2 e0 e1 e2
  obtain ⟨z0, z1, z2⟩ := HS2.out.im3 0 rfl
  obtain ⟨e0, e1, e2⟩ := HS2.out.fr3 0 rfl
  obtain ⟨j0, j1, j2⟩ := HS2.out.im3 1 rfl
  obtain ⟨i0, i1, i2⟩ := HS2.out.im3 2 rfl
  clear hA' hb HS1
  go_wp2_with fail
  refine (cz _).mono ?_
  rintro e w3 ⟨rfl, hb⟩
  have HS3 := hide (HS2.out.next hb)
  clear i0 i1 i2 j0 j1 j2 z0 z1 z2 e0 e1 e2
  obtain ⟨z0, z1, z2⟩ := HS3.out.im3 0 rfl
  obtain ⟨e0, e1, e2⟩ := HS3.out.fr3 0 rfl
  obtain ⟨j0, j1, j2⟩ := HS3.out.im3 1 rfl
  obtain ⟨i0, i1, i2⟩ := HS3.out.im3 2 rfl
  clear cz hb HS2
  obtain ⟨cur, hcur, hmk⟩ := make_cap Q (by omega) w3
  have HO0 : Hid ((w3.alloc (.cells cur 2)).ownsRow w3.heap.size 2 1 (.slice (some ⟨w3.heap.size, 0, none⟩) 0 Q) 0 []) := World.ownsRow_made w3 cur Q (Nat.le_refl _) (by unfold maxLen; omega) hcur
  have HB0 : Hid (Below w3.heap.size w3 (w3.alloc (.cells cur 2))) := bnew _ _
  clear hcur
  go_wp2_with fail
  clear i0 i1 i2 j0 j1 j2 z0 z1 z2 e0 e1 e2 hdv hdt
  have sz := (HS3.out.ltB 2 rfl).2
  have sz1 := (HS3.out.ltB 1 rfl).2
  have szw := HS3.out.below.size
  go_loopw [6, 7, 36] (fun v _ i wr => ∃ k : Nat, k ≤ Q ∧ i = .int .i64 k ∧ wr.ownsRow w3.heap.size 2 1 v k (ints (fl (foldF Q f g) k)) ∧ Below w3.heap.size w3 wr) (fun _ _ i _ => Q - (intOf i).toNat)
  case atStart => exact ⟨0, by omega, rfl, HO0.out, HB0.out⟩
  case round =>
    obtain ⟨k, hk, rfl, ho, hb⟩ := hrel
    clear HB0 HO0 hmk
    have HSr := hide (HS3.out.next hb)
    by_cases hlt : k < Q
    · obtain ⟨i0, i1, i2⟩ := HSr.out.im3 2 rfl
      obtain ⟨j0, j1, j2⟩ := HSr.out.im3 1 rfl
      obtain ⟨K2, hK2⟩ : ∃ K2, K2 = k + Q := ⟨_, rfl⟩
      have hkn' : k < n := by have := HN.out; omega
      have hk2n : K2 < n := by have := HN.out; omega
      obtain ⟨_, _, heq, x1⟩ := (HP.out.below HSr.out.below).at hkn'
      cases heq
      obtain ⟨_, _, heq, x2⟩ := (HP.out.below HSr.out.below).at hk2n
      cases heq
      obtain ⟨_, _, heq, y1⟩ := (HP'.out.below HSr.out.below).at hkn'
      cases heq
      obtain ⟨_, _, heq, y2⟩ := (HP'.out.below HSr.out.below).at hk2n
      cases heq
      have hidx : IntKind.i64.wrap ((k : Int) + (Q : Int)) = (K2 : Int) := by rw [IntKind.wrap_i64]; omega
      have hk2 : (K2 : Int) < (n : Int) := by omega
      have hk3 : (0 : Int) ≤ (K2 : Int) := by omega
      have hkn : (k : Int) < (n : Int) := by omega
      have hV : res (f k * g k + f K2 * g K2) = foldF Q f g k := by rw [hK2]; rfl
      obtain ⟨f1, f2⟩ := allB_at' HA.out k hkn'
      obtain ⟨f3, f4⟩ := allB_at' HA.out K2 hk2n
      obtain ⟨g1, g2⟩ := allB_at' HA'.out k hkn'
      obtain ⟨g3, g4⟩ := allB_at' HA'.out K2 hk2n
      clear hK2 hkn' hk2n
      generalize f k = r1 at *
      generalize g k = s1 at *
      generalize f K2 = r2 at *
      generalize g K2 = s2 at *
      obtain ⟨X1, hX1⟩ : ∃ X, X = r1 * s1 := ⟨_, rfl⟩
      obtain ⟨X2, hX2⟩ : ∃ X, X = r2 * s2 := ⟨_, rfl⟩
      have v1 : X1.natAbs ≤ 1000000000 * 1000000000 := by rw [hX1]; exact natb (by omega) (by omega)
      have v2 : X2.natAbs ≤ 1000000000 * 1000000000 := by rw [hX2]; exact natb (by omega) (by omega)
      rw [← hX1, ← hX2] at hV
      obtain ⟨X3, hX3⟩ : ∃ X, X = X1 + X2 := ⟨_, rfl⟩
      have m1 : IntKind.i64.wrap (r1 * s1) = X1 := by rw [← hX1]; exact wrapn v1 (by omega)
      have m2 : IntKind.i64.wrap (r2 * s2) = X2 := by rw [← hX2]; exact wrapn v2 (by omega)
      have m3 : IntKind.i64.wrap (X1 + X2) = X3 := by rw [hX3]; exact wrapn (nata v1 v2) (by omega)
      rw [← hX3] at hV
      have cM := residue_any X3
      obtain ⟨V, hVV⟩ : ∃ V, V = res X3 := ⟨_, rfl⟩
      rw [← hVV] at cM hV
      have hsr := hb.size
      have hfar : ∀ q, Value.ownBlock u6 = some q → w3.heap.size ≤ q := fun q hq => (ho.lt q hq).1
      have ne0 : some w.heap.size ≠ Value.ownBlock u6 := fun e => absurd (hfar _ e.symm) (by omega)
      have ne1 : some (w.heap.size + 1) ≠ Value.ownBlock u6 := fun e => absurd (hfar _ e.symm) (by omega)
      have ne2 : some b ≠ Value.ownBlock u6 := fun e => absurd (hfar _ e.symm) (by omega)
      have ne3 : some b' ≠ Value.ownBlock u6 := fun e => absurd (hfar _ e.symm) (by omega)
      have HF := hide hfar
      have HO := hide ho
      have HB := hide hb
      have HVV := hide hV
      clear hX1 hX2 hX3 hVV hV f1 f2 f3 f4 g1 g2 g3 g4 v1 v2 HP HP' HA HA' ho hb hfar HS3
      go_upto_region 8 with fail
      go_region_held3 (fun w' => w'.cell? ⟨w.heap.size, 2, none⟩ = some (.slice (some ⟨b, off, none⟩) n cap) ∧ w'.cell? ⟨w.heap.size + 1, 2, none⟩ = some (.slice (some ⟨b', off', none⟩) n cap') ∧ w'.cell? ⟨b, off + k, none⟩ = some (.int .i64 r1) ∧ w'.cell? ⟨b, off + K2, none⟩ = some (.int .i64 r2) ∧ w'.cell? ⟨b', off' + k, none⟩ = some (.int .i64 s1) ∧ w'.cell? ⟨b', off' + K2, none⟩ = some (.int .i64 s2))
        (first
          | exact ⟨i2, j2, x1, x2, y1, y2⟩
          | go_keep
          | (go_split_ands
             refine ⟨?_, ?_, ?_, ?_, ?_, ?_⟩
             · (rw [hgrow.cell_far ⟨w.heap.size, 2, none⟩ (by simp; omega) ne0]; assumption)
             · (rw [hgrow.cell_far ⟨w.heap.size + 1, 2, none⟩ (by simp; omega) ne1]; assumption)
             · (rw [hgrow.cell_far ⟨b, off + k, none⟩ (by simp; omega) ne2]; assumption)
             · (rw [hgrow.cell_far ⟨b, off + K2, none⟩ (by simp; omega) ne2]; assumption)
             · (rw [hgrow.cell_far ⟨b', off' + k, none⟩ (by simp; omega) ne3]; assumption)
             · (rw [hgrow.cell_far ⟨b', off' + K2, none⟩ (by simp; omega) ne3]; assumption)))
        (first
          | (go_at_call 20; refine (cM _).mono ?_; rintro e w4 ⟨rfl, rfl⟩)
          | (refine step_append_lies _ (by rfl) _ _ _ (by rfl) w3.heap.size 2 ti _ 1 8 Try.underlying24 HI1.out hi2 hi3 hi4 rfl (by omega) u6 k (ints (fl (foldF Q f g) k)) (by rfl) ((HO.out.alloc _).drew)
              ⟨wr.heap.size, 0, none⟩ 1 1 [.int .i64 V] (by rfl) (by rfl) (World.news_of_block (cs := #[.int .i64 V]) (t := 2) (fr := (0, 0)) (heap_alloc_new wr _)) (by simp [Value.oneCell'])
              (by omega) (by unfold maxLen; omega) (by omega) (by simp; omega) (wr.heap.size + 1) (by simp) ?_; intro gg cap1 w1 hown1 hgrow hat hlt1))
      all_goals
        have HO1 : Hid (w1.ownsRow w3.heap.size 2 1 (.slice (some ⟨gg, 0, none⟩) (k + 1) cap1) (k + 1) (ints (fl (foldF Q f g) (k + 1)))) := by
          have e : ints (fl (foldF Q f g) (k + 1)) = ints (fl (foldF Q f g) k) ++ [.int .i64 V] := by rw [HVV.out]; simp [fl, ints]
          show World.ownsRow _ _ _ _ _ _ _
          rw [e]; exact hown1
        have HB1 : Hid (Below w3.heap.size w3 w1) := ((HB.out.alloc hsr _).drew).trans ((Below.refl _ _).grown hgrow (by simp; omega) (fun q hq => HF.out q hq))
        clear hown1 hgrow hat hlt1 i0 i1 i2 j0 j1 j2 x1 x2 y1 y2 HO HB HF HVV m1 m2 m3 hidx ne0 ne1 ne2 ne3 HSr cM
        go_wp2_with fail
        exact ⟨⟨k + 1, by omega, rfl, HO1.out, HB1.out⟩, by simp [intOf]; omega⟩
    · obtain rfl : k = Q := by omega
      obtain ⟨a1, cap1, b1, rfl, ow, hB⟩ := ow_fl ho
      have HSe := hide (HS3.out.own hb ow.v hB)
      obtain ⟨i0, i1, i2⟩ := HSe.out.im3 2 rfl
      obtain ⟨z0, z1, z2⟩ := HSe.out.im3 0 rfl
      obtain ⟨e0, e1, e2⟩ := HSe.out.fr3 0 rfl
      clear ho hb ow hB HS3 HP HP' HA HA' HSr
      go_wp2_with fail
      exact bodyPost_ret (v := im W (M : Int) a1 k cap1) (by simp [results, Try.results7, go_sem, z0, z1, z2]) rfl ((HSe.out.fill3 _ _ _).imR W (M : Int) cap1)

end Go.Proofs.Ytpeocbhnnpppjaa
