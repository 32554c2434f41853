/- An order is added. -/
import Derived.Test.YtfhfddmiiopgdaaFll
import Derived.Test.YtfhfddmiiopgdaaFlm
import Derived.Lib.MinMax
import Derived.Deep.RegionLaw
namespace Go.Proofs.Ytfhfddmiiopgdaa
open Go.RowKit

/-- the place of x among the Ids -/
def plN (g : Nat → Int) (x : Int) : Nat → Nat → Nat
  | k, 0 => k
  | k, n + 1 => if x ≤ g (k * 4) then k else plN g x (k + 1) n
theorem isPl_eq {g : Nat → Int} {n : Nat} {x : Int} {p q : Nat} (h1 : isPl g n x p) (h2 : isPl g n x q) : p = q := by
  obtain ⟨a1, a2, a3⟩ := h1
  obtain ⟨b1, b2, b3⟩ := h2
  rcases Nat.lt_trichotomy p q with h | h | h
  · have := b2 p h; have := a3 p (Nat.le_refl _) (by omega); omega
  · exact h
  · have := a2 q h; have := b3 q (Nat.le_refl _) (by omega); omega
theorem plN_is {g : Nat → Int} {x : Int} : ∀ (n k : Nat), (∀ i j, i < j → j < k + n → g (i * 4) < g (j * 4)) → (∀ i, i < k → g (i * 4) < x) → isPl g (k + n) x (plN g x k n)
  | 0, k, _, h => ⟨Nat.le_refl _, h, fun i h1 h2 => by simp only [plN] at h1; omega⟩
  | n + 1, k, hr, h => by
    simp only [plN]
    split
    case isTrue hx =>
      refine ⟨by omega, h, fun i h1 h2 => ?_⟩
      by_cases e : i = k
      · subst e; exact hx
      · have := hr k i (by omega) h2; omega
    case isFalse hx =>
      have := plN_is n (k + 1) (fun i j h1 h2 => hr i j h1 (by omega)) (fun i hi => by
        by_cases e : i = k
        · subst e; exact Int.not_le.1 hx
        · exact h i (by omega : i < k))
      rw [show k + (n + 1) = k + 1 + n by omega]; exact this
/-- the place of an Id -/
def plL (L : List Int) (n : Nat) (x : Int) : Nat := plN (gL L) x 0 n
theorem plL_is {L : List Int} {n : Nat} (x : Int) (hr : risL L n) : isPl (gL L) n x (plL L n x) := by
  have := plN_is (g := gL L) (x := x) n 0 (fun i j h1 h2 => hr i j h1 (by omega)) (fun i hi => by omega)
  rwa [Nat.zero_add] at this
/-- does an order with that Id stand there -/
def fdB (L : List Int) (n : Nat) (x : Int) : Bool := decide (plL L n x < n ∧ gL L (plL L n x * 4) = x)

/-- the code of an order that is added -/
def adC (c : Int) (n : Nat) (id du : Int) (fnd : Bool) : Int := if inB id 0 1000000 = false then 2 else if inB du (max 1 c) 1000000000 = false then 2 else if 500 ≤ n then 3 else if fnd = true then 4 else 0

/-- how many orders then -/
def adN (code : Int) (n : Nat) : Nat := if code = 0 then n + 1 else n
/-- the orders then -/
def adL (code : Int) (L : List Int) (p : Nat) (id du : Int) : List Int := if code = 0 then insL L p [id, 1, du, 0] else L

set_option maxRecDepth 100000 in
set_option maxHeartbeats 4000000 in
theorem implAdd_any {Gh : Nat → Option Obj} (B P : Nat) (c : Int) (v : Value) (n : Nat) (L : List Int) (kd id du : Int) (hn : n ≤ 500) (hr : risL L n) (w : World) (h : FSG Gh B P c v n L w) :
    Calls Try.prog 26 #[.pointer (some ⟨P, 0, none⟩), vAct kd id du] w fun e w' => e = .returned (.int .i64 (adC c n id du (fdB L n id))) ∧ (∃ v', FSG Gh B P c v' (adN (adC c n id du (fdB L n id)) n) (adL (adC c n id du (fdB L n id)) L (plL L n id) id du) w') ∧ Below B w w' := by
  obtain ⟨W, hW⟩ : ∃ W, W = w.alloc (cAct kd id du 30) := ⟨_, rfl⟩
  have hWB : Below w.heap.size w W := by rw [hW]; exact bnew _ _
  have hWs : w.heap.size < W.heap.size := by rw [hW]; simp
  obtain ⟨i0, i1, i2⟩ : BAct w.heap.size kd id du W := by rw [hW]; exact BAct.new _ _ _ _ _
  have hW' := hW.symm
  have HI : Hid (∀ wz, Below W.heap.size W wz → BAct w.heap.size kd id du wz) := fun wz hb => BAct.below ⟨i0, i1, i2⟩ hb hWs
  have HFW := hide (h.below hWB)
  have HB0 : Hid (Below B w W) := hWB.mono (Nat.le_trans h.hB (Nat.le_of_lt h.lt))
  have hPX : P < w.heap.size := h.lt
  have j0 := (HFW.out.box 0 _ rfl).1
  have j1 := (HFW.out.box 1 _ rfl).1
  have cI := isId_any id
  have cW := within_any du (max 1 c) 1000000000
  have HPL := hide (plL_is id hr)
  have cP := fun w' (hF : FSG Gh B P c v n L w') => placeOf_any B P c v n L id (by omega) hr w' hF
  have HX : Hid (∀ w', adC c n id du (fdB L n id) ≠ 0 → FSG Gh B P c v n L w' → ∃ v', FSG Gh B P c v' (adN (adC c n id du (fdB L n id)) n) (adL (adC c n id du (fdB L n id)) L (plL L n id) id du) w') := fun w' h0 hF => ⟨v, by unfold adN adL; rw [if_neg h0, if_neg h0]; exact hF⟩
  obtain ⟨ad, cp, rfl, -, -⟩ := own_pxO HFW.out.own
  have HXO : Hid (∀ b, (Value.slice ad n cp).ownBlock = some b → b ≠ w.heap.size) := fun b hb => by have := (h.own.lt b hb).2; omega
  clear h hW hWB hWs hr
  cases hI : inB id 0 1000000
  · rw [hI] at cI
    have hA : adC c n id du (fdB L n id) = 2 := by unfold adC; rw [hI]; rfl
    have HV : Hid (∀ d, Ending.returned (.int .i64 2) = .returned (.int .i64 (adC c n id du (fdB L n id))) ∧ (∃ v', FSG Gh B P c v' (adN (adC c n id du (fdB L n id)) n) (adL (adC c n id du (fdB L n id)) L (plL L n id) id du) (W.drewN d)) ∧ Below B w (W.drewN d)) := fun d => ⟨by rw [hA], HX.out _ (by rw [hA]; decide) (HFW.out.below (below_drewN (Below.refl _ _) d)), below_drewN HB0.out d⟩
    clear hI hA HX HFW HB0 HI HPL cP cW
    go_enter Try.func26, Try.ntmps26
    go_upto_region 1 with fail
    go_quiet ((go_at_call 33; exact Calls.quiet_of_same (cI _)))
    go_wp2_with fail
    go_ret
    exact HV.out _
  rw [hI] at cI
  cases hD : inB du (max 1 c) 1000000000
  · rw [hD] at cW
    have hA : adC c n id du (fdB L n id) = 2 := by unfold adC; rw [hI, hD]; rfl
    have HV : Hid (∀ d, Ending.returned (.int .i64 2) = .returned (.int .i64 (adC c n id du (fdB L n id))) ∧ (∃ v', FSG Gh B P c v' (adN (adC c n id du (fdB L n id)) n) (adL (adC c n id du (fdB L n id)) L (plL L n id) id du) (W.drewN d)) ∧ Below B w (W.drewN d)) := fun d => ⟨by rw [hA], HX.out _ (by rw [hA]; decide) (HFW.out.below (below_drewN (Below.refl _ _) d)), below_drewN HB0.out d⟩
    clear hI hD hA HX HFW HB0 HI HPL cP
    go_enter Try.func26, Try.ntmps26
    go_upto_region 1 with fail
    go_quiet (first | (go_at_call 33; exact Calls.quiet_of_same (cI _)) | (go_at_call 21; exact Calls.quiet_of_same (cW _)))
    go_wp2_with fail
    go_ret
    exact HV.out _
  rw [hD] at cW
  by_cases h5 : (500 : Int) ≤ n
  · have hA : adC c n id du (fdB L n id) = 3 := by unfold adC; rw [hI, hD, if_neg (by decide), if_neg (by decide), if_pos (by omega)]
    have HV : Hid (∀ d, Ending.returned (.int .i64 3) = .returned (.int .i64 (adC c n id du (fdB L n id))) ∧ (∃ v', FSG Gh B P c v' (adN (adC c n id du (fdB L n id)) n) (adL (adC c n id du (fdB L n id)) L (plL L n id) id du) (W.drewN d)) ∧ Below B w (W.drewN d)) := fun d => ⟨by rw [hA], HX.out _ (by rw [hA]; decide) (HFW.out.below (below_drewN (Below.refl _ _) d)), below_drewN HB0.out d⟩
    clear hI hD hA HX HFW HB0 HI HPL cP
    go_enter Try.func26, Try.ntmps26
    go_upto_region 1 with fail
    go_quiet (first | (go_at_call 33; exact Calls.quiet_of_same (cI _)) | (go_at_call 21; exact Calls.quiet_of_same (cW _)))
    go_wp2_with fail
    go_ret
    exact HV.out _
  have HAC : Hid (∀ f, adC c n id du f = if f = true then 4 else 0) := fun f => by unfold adC; rw [hI, hD, if_neg (by decide), if_neg (by decide), if_neg (by omega)]
  have HXF : Hid (∀ b, (Value.slice ad n cp).ownBlock = some b → b ≠ w.heap.size) := HXO.out
  clear hI hD HXO
  go_enter Try.func26, Try.ntmps26
  go_upto_region 1 with fail
  go_quiet (first | (go_at_call 33; exact Calls.quiet_of_same (cI _)) | (go_at_call 21; exact Calls.quiet_of_same (cW _)))
  have HFn := hide (HFW.out.below (below_drewN (Below.refl _ _) nq))
  have HBn := hide (below_drewN HB0.out nq)
  have HIn := hide (HI.out _ (below_drewN (Below.refl _ _) nq))
  clear cI cW HFW HB0 HI i0 i1 i2 j0 j1 hW'
  generalize W.drewN nq = Wn at *
  obtain ⟨i0, i1, i2⟩ := HIn.out
  have j0 := (HFn.out.box 0 _ rfl).1
  have j1 := (HFn.out.box 1 _ rfl).1
  have cP1 := cP Wn HFn.out
  clear cP
  go_wp2_with fail
  refine cP1.mono ?_
  rintro e w1 ⟨⟨p, rfl, hp⟩, hb1⟩
  obtain rfl : p = plL L n id := isPl_eq hp HPL.out
  have HF1 := hide (HFn.out.below hb1)
  have HB1 : Hid (Below B w w1) := HBn.out.trans (hb1.mono (Nat.le_trans HFn.out.hB (Nat.le_of_lt HFn.out.lt)))
  have HI1 : Hid (BAct w.heap.size kd id du w1) := BAct.below HIn.out hb1 (World.block_lt_of_cell? _ _ i0)
  clear cP1 hp hb1 HFn HBn HIn i0 i1 i2 j0 j1
  have hFD : decide (plL L n id < n ∧ gL L (plL L n id * 4) = id) = fdB L n id := rfl
  rw [hFD]
  clear hFD
  cases hf : fdB L n id
  case true =>
    have hA : adC c n id du (fdB L n id) = 4 := by rw [HAC.out, hf]; rfl
    have HV : Hid (Ending.returned (.int .i64 4) = .returned (.int .i64 (adC c n id du (fdB L n id))) ∧ (∃ v', FSG Gh B P c v' (adN (adC c n id du (fdB L n id)) n) (adL (adC c n id du (fdB L n id)) L (plL L n id) id du) w1) ∧ Below B w w1) := ⟨by rw [hA], HX.out _ (by rw [hA]; decide) HF1.out, HB1.out⟩
    clear hA HX HF1 HB1 HI1 HPL HAC hf
    go_wp2_with fail
    go_ret
    exact HV.out
  have hA : adC c n id du (fdB L n id) = 0 := by rw [HAC.out, hf]; rfl
  obtain ⟨p, hp⟩ : ∃ p, p = plL L n id := ⟨_, rfl⟩
  have hpn : p ≤ n := by rw [hp]; exact HPL.out.1
  have HY : Hid (∀ v' w', FSG Gh B P c v' (n + 1) (insL L p [id, 1, du, 0]) w' → Below B w w' → Ending.returned (.int .i64 0) = .returned (.int .i64 (adC c n id du (fdB L n id))) ∧ (∃ v', FSG Gh B P c v' (adN (adC c n id du (fdB L n id)) n) (adL (adC c n id du (fdB L n id)) L (plL L n id) id du) w') ∧ Below B w w') := fun v' w' h1 h2 => by
    rw [hA, ← hp]
    exact ⟨rfl, ⟨v', by unfold adN adL; rw [if_pos rfl, if_pos rfl]; exact h1⟩, h2⟩
  rw [← hp]
  clear HX HAC hA hf HPL hp
  obtain ⟨i0, i1, i2⟩ := HI1.out
  have j1 := (HF1.out.box 1 _ rfl).1
  have f1 := (HF1.out.box 1 _ rfl).2
  obtain ⟨wa, hwa⟩ : ∃ wa, wa = (w1.alloc (.cells #[.int .i64 id, .int .i64 1, .int .i64 du, .int .i64 0] 41)).drew := ⟨_, rfl⟩
  have hba : Below w1.heap.size w1 wa := by rw [hwa]; exact ((Below.refl _ _).alloc (Nat.le_refl _) _).drew
  have HFa := hide (HF1.out.below hba)
  have HBa : Hid (Below B w wa) := HB1.out.trans (hba.mono (Nat.le_trans HF1.out.hB (Nat.le_of_lt HF1.out.lt)))
  have cIn := insert_any B (.slice ad n cp) n p L w1.heap.size id 1 du 0 hpn (by omega) wa HFa.out.own (Nat.le_trans HFa.out.hB (Nat.le_of_lt HFa.out.lt)) (by rw [hwa]; exact heap_alloc_new w1 _) (fun b hb => by have := (HF1.out.own.lt b hb).2; omega)
  have HXa : Hid (wa.cell? ⟨w.heap.size, 1, none⟩ = some (.int .i64 id) ∧ wa.cell? ⟨w.heap.size, 2, none⟩ = some (.int .i64 du) ∧ P < wa.heap.size ∧ w.heap.size < wa.heap.size ∧ w1.heap.size < wa.heap.size) := by
    have hx := World.block_lt_of_cell? _ _ i1
    have hs : w1.heap.size < wa.heap.size := by rw [hwa]; simp
    exact ⟨(hba.cell hx).trans i1, (hba.cell (p := ⟨w.heap.size, 2, none⟩) hx).trans i2, HFa.out.lt, Nat.lt_trans hx hs, hs⟩
  have hXw : w.heap.size < w1.heap.size := World.block_lt_of_cell? _ _ i1
  have HFF : Hid (∀ g cp' w2, w2.ownsRow B 41 4 (.slice (some ⟨g, 0, none⟩) (n + 1) cp') (n + 1) (ints (insL L p [id, 1, du, 0])) → wa.grownBy w2 (Value.slice ad n cp).ownBlock → ((Value.slice ad n cp).ownBlock = some g ∨ wa.heap.size ≤ g) →
      w2.cell? ⟨P, 1, none⟩ = some (.slice ad n cp) ∧ w2.frozen? ⟨P, 1, none⟩ = false ∧ w2.cell? ⟨w.heap.size, 1, none⟩ = some (.int .i64 id) ∧ w2.cell? ⟨w.heap.size, 2, none⟩ = some (.int .i64 du) ∧
      (∀ u, (w2.setCell ⟨P, 1, none⟩ u).cell? ⟨w.heap.size, 1, none⟩ = some (.int .i64 id) ∧ (w2.setCell ⟨P, 1, none⟩ u).cell? ⟨w.heap.size, 2, none⟩ = some (.int .i64 du)) ∧
      FSG Gh B P c (.slice (some ⟨g, 0, none⟩) (n + 1) cp') (n + 1) (insL L p [id, 1, du, 0]) (w2.setCell ⟨P, 1, none⟩ (.slice (some ⟨g, 0, none⟩) (n + 1) cp')) ∧ Below B w (w2.setCell ⟨P, 1, none⟩ (.slice (some ⟨g, 0, none⟩) (n + 1) cp'))) := fun g cp' w2 ho hg hl => by
    obtain ⟨x1, x2, y1, y2, y3⟩ := HXa.out
    have hPn : some P ≠ (Value.slice ad n cp).ownBlock := fun e => HFa.out.far P e.symm rfl
    have hXn : some w.heap.size ≠ (Value.slice ad n cp).ownBlock := fun e => by
      exact HXF.out _ e.symm rfl
    have bx : Bx P [.int .i64 c, .slice ad n cp] w2 := fun j u hj => by
      obtain ⟨q1, q2⟩ := HFa.out.box j u hj
      exact ⟨(hg.cell_far ⟨P, j, none⟩ y1 hPn).trans q1, (hg.frozen_far ⟨P, j, none⟩ y1 hPn).trans q2⟩
    have hgP : g ≠ P := by
      rcases hl with h | h
      · exact HFa.out.far g h
      · omega
    have kk1 := (hg.cell_far ⟨w.heap.size, 1, none⟩ y2 hXn).trans x1
    have kk2 := (hg.cell_far ⟨w.heap.size, 2, none⟩ y2 hXn).trans x2
    have hPX' : (⟨P, 1, none⟩ : Addr).block ≠ w.heap.size := Nat.ne_of_lt hPX
    refine ⟨(bx 1 _ rfl).1, (bx 1 _ rfl).2, (hg.cell_far ⟨w.heap.size, 1, none⟩ y2 hXn).trans x1, (hg.cell_far ⟨w.heap.size, 2, none⟩ y2 hXn).trans x2, fun u => ⟨(World.cell?_of_block (Below.heap_setCell w2 ⟨P, 1, none⟩ u w.heap.size hPX'.symm)).trans kk1, (World.cell?_of_block (Below.heap_setCell w2 ⟨P, 1, none⟩ u w.heap.size hPX'.symm)).trans kk2⟩, ⟨bx.set 1 _, owns_farO ho fun b hb => ?_, HFa.out.hB, fun b hb => ?_, fun k o hk => ?_⟩, ?_⟩
    · cases hb; exact Below.heap_setCell w2 ⟨P, 1, none⟩ _ g hgP
    · cases hb; exact hgP
    · obtain ⟨s1, s2, s3⟩ := HFa.out.side k o hk
      have hkl := HFa.out.old hk
      refine ⟨(Below.heap_setCell w2 ⟨P, 1, none⟩ _ k s2).trans ((hg.block k hkl (fun e => s3 e.symm)).trans s1), s2, fun e => ?_⟩
      have e' : g = k := by injection e
      rw [e'] at hl
      rcases hl with h | h
      · exact s3 h
      · exact absurd hkl (Nat.not_lt.2 h)
    · exact (HBa.out.grown hg (Nat.le_trans HFa.out.hB (Nat.le_of_lt HFa.out.lt)) (fun q hq => (HFa.out.own.lt q hq).1)).setCell HFa.out.hB _
  have ja := (HFa.out.box 1 _ rfl).1
  have xa1 := HXa.out.1
  have xa2 := HXa.out.2.1
  clear HFa HBa HXa HF1 HB1 HI1
  subst hwa
  clear hba
  go_upto_region 8 with fail
  go_region_law ((go_wp2_with fail; refine cIn.mono ?_; rintro e w2 ⟨g, cp', rfl, ho, hg, hl⟩; obtain ⟨k0, k1, k2, k3, k6, k4, k5⟩ := HFF.out g cp' w2 ho hg hl; clear ho hg hl k6))
  all_goals
    have HV := hide (HY.out _ _ k4 k5)
    clear k0 k1 k2 k3 k4 k5 HY HFF cIn ja xa1 xa2 j1 f1 i0 i1 i2
    go_wp2_with fail
    go_ret
    exact HV.out

end Go.Proofs.Ytfhfddmiiopgdaa
