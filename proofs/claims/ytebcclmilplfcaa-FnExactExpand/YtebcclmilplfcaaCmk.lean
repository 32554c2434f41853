/- The program's codecs write: runs, the codec of a name. -/
import Derived.Test.YtebcclmilplfcaaCmj
namespace Go.Proofs.Ytebcclmilplfcaa
open Go.RowKit

theorem runLength_any (a : Option Addr) (n cap : Nat) (f : Nat → Int) (h0 : 0 < n) (hn : n ≤ 65536) (w : World) (h : Px a n f w) :
    Calls Try.prog 46 #[.slice a n cap] w fun e w' => (∃ q : Nat, e = .returned (.int .i64 q) ∧ 1 ≤ q ∧ q ≤ n ∧ (∀ k, k < q → f k = f 0) ∧ (q = n ∨ f q ≠ f 0)) ∧ w' = w := by
  have HP := hide h
  obtain ⟨b, off, rfl, hz0⟩ := h.at h0
  rw [Nat.add_zero] at hz0
  clear h
  go_enter Try.func46, Try.ntmps46
  go_wp2
  go_loopw [3, 4, 7] (fun _ _ i wr => ∃ j : Nat, j ≤ n ∧ i = .int .i64 j ∧ Hid (∀ k, k < j → f k = f 0) ∧ wr = w) (fun _ _ i _ => n - (intOf i).toNat)
  case atStart => exact ⟨0, by omega, rfl, hide fun k hk => absurd hk (Nat.not_lt_zero _), rfl⟩
  case round =>
    obtain ⟨j, hj, rfl, HA, rfl⟩ := hrel
    by_cases hlt : j < n
    · obtain ⟨b', off', hbb, hz⟩ := HP.out.at hlt
      cases hbb
      by_cases he : f j = f 0
      · have HA2 : Hid (∀ k, k < j + 1 → f k = f 0) := fun k hk => by
          by_cases e : k = j
          · rw [e]; exact he
          · exact HA.out k (by omega)
        have hne : (f j != f 0) = false := by simp [he]
        clear HP HA
        generalize hX : f j = X at *
        generalize hY : f 0 = Y at *
        clear hX hY
        go_wp2_with fail
        go_roundw
        case rel => exact ⟨j + 1, hlt, by go_num, HA2, trivial⟩
        case measure => simp [intOf]; omega
      · have hne : (f j != f 0) = true := by simp [he]
        have HE := hide he
        have h1 : 1 ≤ j := by
          rcases Nat.eq_zero_or_pos j with e | e
          · subst e; exact absurd rfl he
          · exact e
        clear HP
        generalize hX : f j = X at hne hz he
        generalize hY : f 0 = Y at hne hz0 he
        clear hX hY
        go_wp2_with fail
        go_ret
        exact ⟨⟨j, rfl, h1, hj, HA.out, .inr HE.out⟩, rfl⟩
    · obtain rfl : j = n := by omega
      go_wp2
      go_ret
      exact ⟨⟨j, rfl, h0, Nat.le_refl _, HA.out, .inl rfl⟩, rfl⟩

/-- where a piece of a list of numbers begins -/
def cutI (b off cap p : Nat) : Option Addr := if cap = p then some ⟨b, off, none⟩ else some ⟨b, off + p, none⟩
theorem add1 (b off p : Nat) : (⟨b, off, none⟩ : Addr).add (p * 1) = ⟨b, off + p, none⟩ := by unfold Addr.add; split <;> simp_all
theorem cutI_from (b off m cap p : Nat) (hp : p ≤ m) (w : World) : (Instr.slice 22 (.slice (some ⟨b, off, none⟩) m cap) (some (.int .i64 (p : Int))) none none).run Try.prog w = .ok (.slice (cutI b off cap p) (m - p) (cap - p)) w := by
  have hsz : (Go.sizeOf 2).run Try.prog w = .ok 1 w := by kernel_rfl
  have hb := fun code => run_sliceBound (P := Try.prog) w .i64 (p : Int) m code (by omega) (by omega)
  simp only [Instr.slice, Instr.sliceBounds, Sem.run_bind, run_underlying Try.underlying22, Result.andThen, Sem.run_pure, hb, hsz, Int.toNat_natCast]
  unfold cutI
  simp only [Option.map_some, add1]
theorem Px.cutI {m cap : Nat} {b off : Nat} {f : Nat → Int} {w : World} (h : Px (some ⟨b, off, none⟩) m f w) (hc : m ≤ cap) (p : Nat) (hp : p ≤ m) : Px (cutI b off cap p) (m - p) (fun k => f (p + k)) w := by
  unfold Proofs.Ytebcclmilplfcaa.cutI
  split
  · exact .inl (by omega)
  · rcases h with h | ⟨b', off', hb', h⟩
    · exact .inl (by omega)
    · cases hb'
      refine .inr ⟨b, off + p, rfl, fun k hk => ?_⟩
      rw [Nat.add_assoc]
      exact h (p + k) (by omega)
def lenV : Value → Nat
  | .slice _ m _ => m
  | _ => 0

set_option maxRecDepth 100000 in
set_option maxHeartbeats 1000000 in
theorem putRuns_any (p : Nat) (L : List Int) (a : Option Addr) (n cap : Nat) (f : Nat → Int) (hcap : n ≤ cap) (hn : n ≤ 65536) (ht : tnB f n) (hlm : L.length ≤ 4000000) (W : World) (hP : Px a n f W) (hWp : W.heap.size ≤ p) (w : World) (hWb : Below W.heap.size W w) (h : BW p L w) :
    Calls Try.prog 34 #[.pointer (some ⟨p, 0, none⟩), .slice a n cap] w fun e w' => e = .returned (.tuple #[]) ∧ BW p (L ++ bb (rnL f n n)) w' ∧ Below p w w' := by
  have HP := hide hP
  have HT := hide ht
  have HWp := hide hWp
  have HWb := hide hWb
  have HRL := hide (rnL_len ht n hn (Nat.le_refl _))
  clear hP hWp hWb ht
  go_enter Try.func34, Try.ntmps34
  go_wp2
  go_loopw [1, 4] (fun q _ wr => ∃ (i m : Nat) (a' : Option Addr) (cap' : Nat) (M : List Int), i + m = n ∧ m ≤ cap' ∧ q = .slice a' m cap' ∧ Px a' m (fun k => f (i + k)) W ∧ M ++ bb (rnL f n m) = L ++ bb (rnL f n n) ∧ BW p M wr ∧ Below p w wr) (fun q _ _ => lenV q)
  case atStart => exact ⟨0, n, a, cap, L, by omega, hcap, rfl, by simpa using HP.out, rfl, h, Below.refl _ _⟩
  case round =>
    obtain ⟨i, m, a', cap', M, him, hmc, rfl, hP, hM, hw, hb⟩ := hrel
    have HM := hide hM
    have HB := hide hb
    clear h hM HP
    rcases Nat.eq_zero_or_pos m with h0 | h0
    · subst h0
      have hF := HM.out
      rw [rnL_0] at hF
      simp only [bb, List.append_nil] at hF
      have HF : Hid (BW p (L ++ bb (rnL f n n)) wr) := by show BW _ _ _; rw [← hF]; exact hw
      clear hF hw HM hP
      go_wp2
      go_end0
      exact ⟨rfl, HF.out, HB.out⟩
    · have HPX := hide hP
      obtain ⟨b, off, rfl, hz0⟩ := hP.at h0
      rw [Nat.add_zero] at hz0
      have hz : wr.cell? ⟨b, off, none⟩ = some (.int .i64 (f i)) := by
        have hb2 := HWb.out.trans (hb.mono HWp.out)
        exact (hb2.cell (p := ⟨b, off, none⟩) (World.block_lt_of_cell? W _ hz0)).trans hz0
      have cL := runLength_any _ m cap' (fun k => f (i + k)) h0 (by omega) wr (HPX.out.below (HWb.out.trans (hb.mono HWp.out)))
      have hfi := HT.out i (by omega)
      have hlen : M.length + 8 * (rnL f n m).length = L.length + 8 * (rnL f n n).length := by
        have := congrArg List.length HM.out
        simpa only [List.length_append, bb_len] using this
      have hrl := HRL.out
      clear hP hz0 hb
      go_wp2_with fail
      refine cL.mono ?_
      rintro e w1 ⟨⟨q, rfl, hq1, hqm, hq, hqe⟩, rfl⟩
      clear cL
      have hst := rnL_step f n i (i + q) (by omega) (by omega) (fun k h1 h2 => by have := hq (k - i) (by omega); simpa [show i + (k - i) = k by omega] using this) (hqe.imp (fun e => by omega) (fun e => by simpa using e))
      rw [show n - i = m by omega, show i + q - i = q by omega, show n - (i + q) = m - q by omega] at hst
      have l1 := smL_len q (by omega)
      have l2 := smL_len (f i).toNat (by omega)
      rw [hst] at hlen
      simp only [List.length_append] at hlen
      have c1 := putSmall_any p M q (by omega) (by omega) w1 hw
      have c2 := fun w' h' => putSmall_any p (M ++ bb (smL q)) (f i).toNat (by omega) (by rw [List.length_append, bb_len]; omega) w' h'
      have ei : (((f i).toNat : Nat) : Int) = f i := by omega
      rw [ei] at c2
      have HM2 : Hid (M ++ bb (smL q) ++ bb (smL (f i).toNat) ++ bb (rnL f n (m - q)) = L ++ bb (rnL f n n)) := by
        show _ = _
        rw [← HM.out, hst]
        simp only [bb_app, List.append_assoc]
      have hcut := fun w' => cutI_from b off m cap' q hqm w'
      have HPC := hide (HPX.out.cutI hmc q hqm)
      have HWB0 : Hid (∀ w2 : World, Below p w1 w2 → w2.cell? ⟨b, off, none⟩ = some (.int .i64 (f i))) := fun w2 h2 => by
        have hl : b < p := by
          have h3 : b < W.heap.size := by
            rcases HPX.out with h | ⟨b', off', hb', h⟩
            · omega
            · cases hb'
              exact World.block_lt_of_cell? W _ (h 0 h0)
          have := HWp.out
          omega
        have := h2.block b hl
        exact (World.cell?_of_block (a := ⟨b, off, none⟩) this).trans hz
      clear hq hqe hst hlen l1 l2 hrl HM hw ei HRL HT HPX
      go_wp2_with fail
      refine c1.mono ?_
      rintro e w2 ⟨rfl, hw2, hb2⟩
      have hz2 := HWB0.out w2 hb2
      have c3 := c2 w2 hw2
      have HB2 := hide (HB.out.trans hb2)
      clear c1 c2 hw2 hb2 hz
      generalize M ++ bb (smL q) = M1 at *
      go_wp2_with fail
      refine c3.mono ?_
      rintro e w3 ⟨rfl, hw3, hb3⟩
      have HW3 := hide hw3
      have HB3 := hide (HB2.out.trans hb3)
      clear c3 hw3 hb3 HWB0 hz2
      generalize M1 ++ bb (smL (f i).toNat) = M2 at *
      have hPC2 : Hid (Px (cutI b off cap' q) (m - q) (fun k => f (i + q + k)) W) := by
        show Px _ _ _ _
        have := HPC.out
        simpa only [← Nat.add_assoc] using this
      clear HPC
      generalize cutI b off cap' q = A at *
      go_wp2_with fail
      go_roundw
      case rel => exact ⟨i + q, m - q, A, cap' - q, M2, by omega, by omega, rfl, hPC2.out, HM2.out, HW3.out, HB3.out⟩
      case measure => simp [lenV]; omega

end Go.Proofs.Ytebcclmilplfcaa
