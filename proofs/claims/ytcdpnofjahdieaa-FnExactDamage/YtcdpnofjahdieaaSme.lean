/- Marks of lists of Entry. -/
import Derived.Test.YtcdpnofjahdieaaMkt
import Derived.Test.YtcdpnofjahdieaaSnt
namespace Go.Proofs.Ytcdpnofjahdieaa
open Go.RowKit

/-- the cells of a marked list of Entry -/
def MEntry (k0 : Int) (q : Nat) : Value :=
  if q % 5 = 0 then .string (mkT (k0 + (q : Int))) else if q % 5 = 1 then .int .i64 (k0 + (q : Int)) else if q % 5 = 2 then .int .i64 (k0 + (q : Int)) else if q % 5 = 3 then .int .i64 (k0 + (q : Int)) else .int .i64 (k0 + (q : Int))
theorem MEntry_0 (k0 K : Int) (j : Nat) (h : K = k0 + 5 * (j : Int)) : .string (mkT (K)) = MEntry k0 (j * 5) := by
  have h1 : (j * 5) % 5 = 0 := by omega
  have h2 : k0 + ((j * 5 : Nat) : Int) = K := by omega
  unfold MEntry
  rw [h1, h2]
  rfl
theorem MEntry_1 (k0 K : Int) (j : Nat) (h : K = k0 + 5 * (j : Int)) : .int .i64 (K + 1) = MEntry k0 (j * 5 + 1) := by
  have h1 : (j * 5 + 1) % 5 = 1 := by omega
  have h2 : k0 + ((j * 5 + 1 : Nat) : Int) = K + 1 := by omega
  unfold MEntry
  rw [h1, h2]
  rfl
theorem MEntry_2 (k0 K : Int) (j : Nat) (h : K = k0 + 5 * (j : Int)) : .int .i64 (K + 1 + 1) = MEntry k0 (j * 5 + 2) := by
  have h1 : (j * 5 + 2) % 5 = 2 := by omega
  have h2 : k0 + ((j * 5 + 2 : Nat) : Int) = K + 1 + 1 := by omega
  unfold MEntry
  rw [h1, h2]
  rfl
theorem MEntry_3 (k0 K : Int) (j : Nat) (h : K = k0 + 5 * (j : Int)) : .int .i64 (K + 1 + 1 + 1) = MEntry k0 (j * 5 + 3) := by
  have h1 : (j * 5 + 3) % 5 = 3 := by omega
  have h2 : k0 + ((j * 5 + 3 : Nat) : Int) = K + 1 + 1 + 1 := by omega
  unfold MEntry
  rw [h1, h2]
  rfl
theorem MEntry_4 (k0 K : Int) (j : Nat) (h : K = k0 + 5 * (j : Int)) : .int .i64 (K + 1 + 1 + 1 + 1) = MEntry k0 (j * 5 + 4) := by
  have h1 : (j * 5 + 4) % 5 = 4 := by omega
  have h2 : k0 + ((j * 5 + 4 : Nat) : Int) = K + 1 + 1 + 1 + 1 := by omega
  unfold MEntry
  rw [h1, h2]
  rfl

set_option maxRecDepth 100000 in
set_option maxHeartbeats 4000000 in
theorem markEntryS_any (a : Option Addr) (b n cap : Nat) (F : Nat → Value) (hl : n ≤ 1048576) (k0 : Int) (hk0 : 0 < k0) (hk1 : k0 ≤ 100000000) (w : World) (h : OwV a b (n * 5) F w) :
    Calls Try.prog 25 #[.slice a n cap, .int .i64 k0] w fun e w' => e = .returned (.int .i64 (k0 + 5 * (n : Int))) ∧ OwV a b (n * 5) (MEntry k0) w' ∧ Kept b w w' := by
  go_enter Try.func25, Try.ntmps25
  go_wp2
  go_loopw [1, 5] (fun k i wr => ∃ (j : Nat) (K : Int), j ≤ n ∧ i = .int .i64 j ∧ k = .int .i64 K ∧ Hid (K = k0 + 5 * (j : Int)) ∧ Kept b w wr ∧ (n * 5 = 0 ∨ (a = some ⟨b, 0, none⟩ ∧ PtV b (n * 5) (j * 5) (MEntry k0) wr))) (fun _ i _ => n - (intOf i).toNat)
  case atStart =>
    refine ⟨0, k0, by omega, rfl, rfl, hide (by simp), Kept.refl _ _, ?_⟩
    rcases h with h | ⟨ha, h⟩
    · exact .inl h
    · exact .inr ⟨ha, by rw [Nat.zero_mul]; exact h.pt⟩
  case round =>
    obtain ⟨j, K, hj, rfl, rfl, HK, hk, hp⟩ := hrel
    clear h
    by_cases hlt : j < n
    · obtain ⟨ha, hq⟩ : a = some ⟨b, 0, none⟩ ∧ PtV b (n * 5) (j * 5) (MEntry k0) wr := by
        rcases hp with hp | hp
        · omega
        · exact hp
      clear hp
      subst ha
      have hKb : 0 < K ∧ K ≤ 110000000 := by have := HK.out; omega
      have HQ := hide hq
      have HKP := hide hk
      clear hq hk
      have cT0 := markTextI (K) (by omega) (by omega)
      go_wp2_with fail
      refine (cT0 _).mono ?_
      rintro e w0 ⟨rfl, hb0⟩
      have hbl0 : b < wr.heap.size := by obtain ⟨⟨y, c, _⟩, _⟩ := HQ.out (j * 5) (by omega); exact World.block_lt_of_cell? wr _ c
      have HQ' : Hid (PtV b (n * 5) (j * 5) (MEntry k0) w0) := HQ.out.below hb0 hbl0
      have HKP' : Hid (Kept b w w0) := HKP.out.trans (Kept.of_below hb0)
      clear cT0 hb0 hbl0 HQ HKP
      have HQ := HQ'
      have HKP := HKP'
      clear HQ' HKP'
      obtain ⟨⟨y0, c0, _⟩, g0⟩ := HQ.out (j * 5) (by omega)
      obtain ⟨⟨y1, c1, _⟩, g1⟩ := HQ.out (j * 5 + 1) (by omega)
      obtain ⟨⟨y2, c2, _⟩, g2⟩ := HQ.out (j * 5 + 2) (by omega)
      obtain ⟨⟨y3, c3, _⟩, g3⟩ := HQ.out (j * 5 + 3) (by omega)
      obtain ⟨⟨y4, c4, _⟩, g4⟩ := HQ.out (j * 5 + 4) (by omega)
      obtain ⟨wf, hwf⟩ : ∃ wf, wf = (((((w0.setCell ⟨b, j * 5, none⟩ (.string (mkT (K)))).setCell ⟨b, j * 5 + 1, none⟩ (.int .i64 (K + 1))).setCell ⟨b, j * 5 + 2, none⟩ (.int .i64 (K + 1 + 1))).setCell ⟨b, j * 5 + 3, none⟩ (.int .i64 (K + 1 + 1 + 1))).setCell ⟨b, j * 5 + 4, none⟩ (.int .i64 (K + 1 + 1 + 1 + 1))) := ⟨_, rfl⟩
      have HPF : Hid (PtV b (n * 5) (j * 5 + 5) (MEntry k0) wf) := by rw [hwf]; exact (PtV.step (PtV.step (PtV.step (PtV.step (PtV.step HQ.out (.string (mkT (K))) (MEntry_0 k0 K j HK.out)) (.int .i64 (K + 1)) (MEntry_1 k0 K j HK.out)) (.int .i64 (K + 1 + 1)) (MEntry_2 k0 K j HK.out)) (.int .i64 (K + 1 + 1 + 1)) (MEntry_3 k0 K j HK.out)) (.int .i64 (K + 1 + 1 + 1 + 1)) (MEntry_4 k0 K j HK.out))
      have HKF : Hid (Kept b w wf) := by rw [hwf]; exact (((((HKP.out.setCell rfl _).setCell rfl _).setCell rfl _).setCell rfl _).setCell rfl _)
      have hwf' := hwf.symm
      clear HQ HKP hwf
      go_wp2_with fail
      go_roundw
      case rel => exact ⟨j + 1, K + 1 + 1 + 1 + 1 + 1, by omega, by go_num, rfl, hide (by have := HK.out; omega), HKF.out, .inr ⟨trivial, by rw [Nat.succ_mul]; exact HPF.out⟩⟩
      case measure => simp [intOf]; omega
    · obtain rfl : j = n := by omega
      have HE : Hid (k0 + 5 * (j : Int) = K) := HK.out.symm
      go_wp2
      go_ret
      refine ⟨by rw [HE.out]; rfl, ?_, hk⟩
      rcases hp with hp | ⟨ha, hp⟩
      · exact .inl hp
      · exact .inr ⟨ha, hp.row⟩

set_option maxRecDepth 100000 in
set_option maxHeartbeats 4000000 in
theorem heldEntryS_any (a : Option Addr) (n cap : Nat) (hl : n ≤ 1048576) (k0 : Int) (hk0 : 0 < k0) (hk1 : k0 ≤ 100000000) (w : World) (h : PxG a (n * 5) (MEntry k0) w) :
    Calls Try.prog 28 #[.slice a n cap, .int .i64 k0] w fun e w' => e = .returned (.int .i64 (k0 + 5 * (n : Int))) ∧ Below w.heap.size w w' := by
  have HP := hide h
  clear h
  go_enter Try.func28, Try.ntmps28
  go_wp2
  go_loopw [1, 5] (fun k i wr => ∃ (j : Nat) (K : Int), j ≤ n ∧ i = .int .i64 j ∧ k = .int .i64 K ∧ Hid (K = k0 + 5 * (j : Int)) ∧ Below w.heap.size w wr) (fun _ i _ => n - (intOf i).toNat)
  case atStart => exact ⟨0, k0, by omega, rfl, rfl, hide (by simp), Below.refl _ _⟩
  case round =>
    obtain ⟨j, K, hj, rfl, rfl, HK, hb⟩ := hrel
    by_cases hlt : j < n
    · obtain ⟨bb, off, rfl, hc⟩ : ∃ bb off, a = some ⟨bb, off, none⟩ ∧ ∀ k, k < n * 5 → wr.cell? ⟨bb, off + k, none⟩ = some (MEntry k0 k) := by
        rcases HP.out.below hb with h9 | h9
        · omega
        · exact h9
      have hKb : 0 < K ∧ K ≤ 110000000 := by have := HK.out; omega
      have c0 : wr.cell? ⟨bb, off + j * 5, none⟩ = some (.string (mkT (K))) := by rw [MEntry_0 k0 K j HK.out]; exact hc _ (by omega)
      have q0 : ((mkT (K)).toList == (mkT (K)).toList) = true := by simp
      have c1 : wr.cell? ⟨bb, off + j * 5 + 1, none⟩ = some (.int .i64 (K + 1)) := by rw [MEntry_1 k0 K j HK.out, Nat.add_assoc]; exact hc _ (by omega)
      have q1 : (K + 1 != K + 1) = false := by simp
      have c2 : wr.cell? ⟨bb, off + j * 5 + 2, none⟩ = some (.int .i64 (K + 1 + 1)) := by rw [MEntry_2 k0 K j HK.out, Nat.add_assoc]; exact hc _ (by omega)
      have q2 : (K + 1 + 1 != K + 1 + 1) = false := by simp
      have c3 : wr.cell? ⟨bb, off + j * 5 + 3, none⟩ = some (.int .i64 (K + 1 + 1 + 1)) := by rw [MEntry_3 k0 K j HK.out, Nat.add_assoc]; exact hc _ (by omega)
      have q3 : (K + 1 + 1 + 1 != K + 1 + 1 + 1) = false := by simp
      have c4 : wr.cell? ⟨bb, off + j * 5 + 4, none⟩ = some (.int .i64 (K + 1 + 1 + 1 + 1)) := by rw [MEntry_4 k0 K j HK.out, Nat.add_assoc]; exact hc _ (by omega)
      have q4 : (K + 1 + 1 + 1 + 1 != K + 1 + 1 + 1 + 1) = false := by simp
      have HKEEP : Hid (∀ wz, Below wr.heap.size wr wz → (wz.cell? ⟨bb, off + j * 5, none⟩ = some (.string (mkT (K))) ∧ wz.cell? ⟨bb, off + j * 5 + 1, none⟩ = some (.int .i64 (K + 1)) ∧ wz.cell? ⟨bb, off + j * 5 + 2, none⟩ = some (.int .i64 (K + 1 + 1)) ∧ wz.cell? ⟨bb, off + j * 5 + 3, none⟩ = some (.int .i64 (K + 1 + 1 + 1)) ∧ wz.cell? ⟨bb, off + j * 5 + 4, none⟩ = some (.int .i64 (K + 1 + 1 + 1 + 1)))) := fun wz hz => ⟨(hz.cell (p := ⟨bb, off + j * 5, none⟩) (World.block_lt_of_cell? wr _ c0)).trans c0, (hz.cell (p := ⟨bb, off + j * 5 + 1, none⟩) (World.block_lt_of_cell? wr _ c1)).trans c1, (hz.cell (p := ⟨bb, off + j * 5 + 2, none⟩) (World.block_lt_of_cell? wr _ c2)).trans c2, (hz.cell (p := ⟨bb, off + j * 5 + 3, none⟩) (World.block_lt_of_cell? wr _ c3)).trans c3, (hz.cell (p := ⟨bb, off + j * 5 + 4, none⟩) (World.block_lt_of_cell? wr _ c4)).trans c4⟩
      have HB := hide hb
      have HR : Hid (Below wr.heap.size wr wr) := Below.refl _ _
      clear hb hc HP
      have cT0 := markTextI (K) (by omega) (by omega) wr.drew
      have HD0 : Hid (Below wr.heap.size wr wr.drew) := (Below.refl _ _).drew
      go_wp2_with fail
      go_region_with (go_at_call 52; (with_reducible refine cT0.mono ?_); rintro e w0 ⟨rfl, hb0⟩; have HR' : Hid (Below wr.heap.size wr w0) := bnext HR.out (Nat.le_refl _) (HD0.out.trans hb0); obtain ⟨d0_0, d0_1, d0_2, d0_3, d0_4⟩ := HKEEP.out w0 HR'.out; clear hb0)
      all_goals
        clear cT0 HD0 HR c0 c1 c2 c3 c4
        have HR := HR'
        clear HR'
        have HBF : Hid (Below w.heap.size w w0) := bnext HB.out (Nat.le_refl _) HR.out
        clear HKEEP HB HR
        go_wp2_with fail
        refine ⟨⟨j + 1, K + 1 + 1 + 1 + 1 + 1, by omega, rfl, ?_, hide (by have := HK.out; omega), HBF.out⟩, by simp [intOf]; omega⟩
        first | rfl | (congr 1; omega)
    · obtain rfl : j = n := by omega
      have HE : Hid (k0 + 5 * (j : Int) = K) := HK.out.symm
      go_wp2
      go_ret
      exact ⟨by rw [HE.out]; rfl, hb⟩

end Go.Proofs.Ytcdpnofjahdieaa
