/- slices.Compact and slices.Clone over lists of numbers: how long the answer is. -/
import Derived.Test.YtlailkoikcjecaaGrk
import Derived.Lib.SliceRun
import Derived.Lib.LazyBuf
import Derived.Lib.Walk
import Derived.WalkKit
import Derived.BigRegion
namespace Go.Proofs.Ytlailkoikcjecaa
open Go.RowKit

/-- no number stands beside itself -/
def adjN (L : List Int) : Prop := ∀ k, k + 1 < L.length → L.getD k 0 ≠ L.getD (k + 1) 0

theorem add1 (b off p : Nat) : (⟨b, off, none⟩ : Addr).add (p * 1) = ⟨b, off + p, none⟩ := by unfold Addr.add; split <;> simp_all
set_option maxRecDepth 100000 in
theorem cutI (b off m cap p : Nat) (hp : p ≤ m) (hc : p < cap) (w : World) : (Instr.slice 32 (.slice (some ⟨b, off, none⟩) m cap) (some (.int .i64 (p : Int))) none none).run Try.prog w = .ok (.slice (some ⟨b, off + p, none⟩) (m - p) (cap - p)) w := by
  have hsz : (Go.sizeOf 2).run Try.prog w = .ok 1 w := by kernel_rfl
  have hb := fun code => run_sliceBound (P := Try.prog) w .i64 (p : Int) m code (by omega) (by omega)
  simp only [Instr.slice, Instr.sliceBounds, Sem.run_bind, run_underlying Try.underlying32, Result.andThen, Sem.run_pure, hb, hsz, Int.toNat_natCast]
  rw [if_neg (by omega)]
  simp only [Option.map_some, add1]
set_option maxRecDepth 100000 in
theorem cutH (b off m cap p : Nat) (hp : p ≤ cap) (w : World) : (Instr.slice 32 (.slice (some ⟨b, off, none⟩) m cap) none (some (.int .i64 (p : Int))) none).run Try.prog w = .ok (.slice (some ⟨b, off, none⟩) p cap) w := by
  have hsz : (Go.sizeOf 2).run Try.prog w = .ok 1 w := by kernel_rfl
  have hb := fun code => run_sliceBound (P := Try.prog) w .i64 (p : Int) cap code (by omega) (by omega)
  simp only [Instr.slice, Instr.sliceBounds, Sem.run_bind, run_underlying Try.underlying32, Result.andThen, Sem.run_pure, hb, hsz, Int.toNat_natCast]
  have e := add1 b off 0
  rw [Nat.zero_mul, Nat.add_zero] at e
  simp only [Option.map_some, Nat.sub_zero, Nat.zero_mul, e]
  split <;> rfl
theorem zero2 (w : World) : (zeroValue 2).run Try.prog w = .ok (.int .i64 0) w := by kernel_rfl

/-- what Compact answers -/
def CpR (L : List Int) (n B : Nat) (w : World) (e : Ending) (w' : World) : Prop := ∃ a m cap, e = .returned (.slice a m cap) ∧ (m = n ↔ adjN L) ∧ m ≤ n ∧ Below B w w'

set_option maxRecDepth 100000 in
set_option maxHeartbeats 2000000 in
theorem compact_any (B : Nat) (v : Value) (L : List Int) (hL : L.length ≤ 1048576) (w : World) (h : w.ownsRow B 2 1 v L.length (ints L)) :
    Calls Try.prog 33 #[v] w (CpR L L.length B w) := by
  by_cases h2 : L.length < 2
  · have hf : ∃ a c, v = .slice a L.length c := by
      obtain ⟨_, ⟨hv, h0⟩ | ⟨b, cap, cur, hv, _⟩⟩ := h
      · exact ⟨none, 0, by rw [hv, h0]⟩
      · exact ⟨_, _, hv⟩
    obtain ⟨a, c, rfl⟩ := hf
    have HA : Hid (adjN L) := fun k hk => by omega
    generalize L.length = n at *
    have h2' : (n : Int) < 2 := by omega
    clear h
    go_enter Try.func33, Try.ntmps33
    go_wp2_with fail
    go_ret
    exact ⟨a, n, c, rfl, ⟨fun _ => HA.out, fun _ => rfl⟩, Nat.le_refl _, Below.refl _ _⟩
  · obtain ⟨b, cap, rfl, hBb, -⟩ := own_partsL h (by omega)
    have hncap : L.length ≤ cap := by
      obtain ⟨_, ⟨hv, _⟩ | ⟨_, _, _, hv, _, _, hc, _⟩⟩ := h
      · cases hv
      · cases hv; exact hc
    obtain ⟨n, hn⟩ : ∃ n, L.length = n := ⟨_, rfl⟩
    rw [hn] at h hncap hL h2
    have HN := hide hn
    have HW0 := hide h
    have h2' : ¬ (n : Int) < 2 := by omega
    have HFIN : Hid (∀ (m : Nat) (w' : World), (m = n ↔ adjN L) → m ≤ n → Below B w w' → CpR L n B w (Ending.returned (.slice (some ⟨b, 0, none⟩) m cap)) w') := fun m w' h1 h3 h4 => ⟨_, m, cap, rfl, h1, h3, h4⟩
    have HADJ : Hid (adjN L ↔ ∀ k, k + 1 < n → L.getD k 0 ≠ L.getD (k + 1) 0) := by show _ ↔ _; unfold adjN; rw [HN.out]
    rw [hn]
    clear hn h
    go_enter Try.func33, Try.ntmps33
    go_wp2_with fail
    go_loopw [3] (fun s3 wr => ∃ k : Nat, 1 ≤ k ∧ k ≤ n ∧ s3 = .int .i64 k ∧ Hid (∀ j, j + 1 < k → L.getD j 0 ≠ L.getD (j + 1) 0) ∧ wr.ownsRow B 2 1 (.slice (some ⟨b, 0, none⟩) n cap) n (ints L) ∧ Below B w wr) (fun s3 _ => n - (intOf s3).toNat)
    case atStart => exact ⟨1, by omega, by omega, rfl, hide (fun j hj => by omega), HW0.out, Below.refl _ _⟩
    case round =>
      obtain ⟨k, hk1, hk, rfl, HA, ho, hb⟩ := hrel
      have HW := hide ho
      have HB := hide hb
      clear ho hb HW0
      by_cases hlt : k < n
      · have hlt' : (k : Int) < n := by omega
        obtain ⟨b', cap', e9, -, hc⟩ := own_partsL HW.out (by omega)
        cases e9
        obtain ⟨j, rfl⟩ : ∃ j, k = j + 1 := ⟨k - 1, by omega⟩
        have hx := (hc (j + 1) (by omega)).1
        have hy := (hc j (by omega)).1
        have HWD : Hid (wr.drew.ownsRow B 2 1 (.slice (some ⟨b, 0, none⟩) n cap) n (ints L)) := HW.out
        have HBD : Hid (Below B w wr.drew) := HB.out.drew
        have hj1 : (((j + 1 : Nat) : Int) - 1) = (j : Int) := by omega
        have hj9 : (j : Int) < n := by omega
        have HEQ : Hid (L.getD j 0 ≠ L.getD (j + 1) 0 → ∀ i, i + 1 < j + 1 + 1 → L.getD i 0 ≠ L.getD (i + 1) 0) := fun h i hi => by
          by_cases e : i = j
          · subst e; exact h
          · exact HA.out i (by omega)
        have HNE : Hid (L.getD j 0 = L.getD (j + 1) 0 → ¬ adjN L) := fun h h' => (HADJ.out.1 h') j (by omega) h
        clear hc HW HB HA
        generalize L.getD (j + 1) 0 = X at *
        generalize L.getD j 0 = Y at *
        by_cases hxy : X = Y
        · subst hxy
          have HNA := hide (HNE.out rfl)
          clear HNE HEQ
          go_wp2_with fail
          go_region
          generalize wr.drew = wd at *
          clear hx hy
          have hsl : ∀ w' : World, (Instr.slice 32 (.slice (some ⟨b, 0, none⟩) n cap) (some (.int .i64 ((j + 1 : Nat) : Int))) none none).run Try.prog w' = .ok (.slice (some ⟨b, j + 1, none⟩) (n - (j + 1)) (cap - (j + 1))) w' := fun w' => by
            have := cutI b 0 n cap (j + 1) (by omega) (by omega) w'
            rwa [Nat.zero_add] at this
          go_wp2_with fail
          go_loopw [3, 5] (fun s3 s5 wq => ∃ (kk k2 : Nat) (M : List Int), j + 1 ≤ kk ∧ kk + 1 ≤ j + 1 + k2 ∧ 1 ≤ k2 ∧ j + 1 + k2 ≤ n ∧ s3 = .int .i64 kk ∧ s5 = .int .i64 k2 ∧ Hid (M.length = n) ∧ wq.ownsRow B 2 1 (.slice (some ⟨b, 0, none⟩) n cap) n (ints M) ∧ Below B w wq) (fun _ s5 _ => n - (intOf s5).toNat)
          case atStart => exact ⟨j + 1, 1, L, by omega, by omega, by omega, by omega, rfl, rfl, HN, HWD.out, HBD.out⟩
          case round =>
            obtain ⟨kk, k2, M, hk1, hk2, hk3, hk4, rfl, rfl, HM, ho, hb⟩ := hrel
            have HW2 := hide ho
            have HB2 := hide hb
            clear ho hb HWD HBD hsl HADJ
            by_cases hlt2 : j + 1 + k2 < n
            · have hlt3 : (k2 : Int) < ((n - (j + 1) : Nat) : Int) := by omega
              obtain ⟨i2, rfl⟩ : ∃ i2, k2 = i2 + 1 := ⟨k2 - 1, by omega⟩
              obtain ⟨b', cap', e9, -, hc⟩ := own_partsL HW2.out (by omega)
              cases e9
              have hx := (hc (j + 1 + (i2 + 1)) (by omega)).1
              have hy := (hc (j + 1 + i2) (by omega)).1
              have hi1 : (((i2 + 1 : Nat) : Int) - 1) = (i2 : Int) := by omega
              have hi2 : (i2 : Int) < ((n - (j + 1) : Nat) : Int) := by omega
              have HWE : Hid (wr.drew.ownsRow B 2 1 (.slice (some ⟨b, 0, none⟩) n cap) n (ints M)) := HW2.out
              have HBE : Hid (Below B w wr.drew) := HB2.out.drew
              have HXM : Hid (∀ w' : World, w'.ownsRow B 2 1 (.slice (some ⟨b, 0, none⟩) n cap) n (ints M) → w'.cell? ⟨b, j + 1 + (i2 + 1), none⟩ = some (.int .i64 (M.getD (j + 1 + (i2 + 1)) 0)) ∧ (∃ y, w'.cell? ⟨b, kk, none⟩ = some (.int .i64 y)) ∧ w'.frozen? ⟨b, kk, none⟩ = false) := fun w' h' => by
                obtain ⟨b', cap', e9, -, hc⟩ := own_partsL h' (by omega)
                cases e9
                exact ⟨(hc _ (by omega)).1, ⟨_, (hc kk (by omega)).1⟩, (hc kk (by omega)).2⟩
              clear hc HW2 HB2
              generalize M.getD (j + 1 + (i2 + 1)) 0 = X2 at *
              generalize M.getD (j + 1 + i2) 0 = Y2 at *
              by_cases hxy : X2 = Y2
              · subst hxy
                have hne : (X2 != X2) = false := by simp
                clear HXM
                go_wp2_with fail
                go_region
                generalize wr.drew = wd at *
                clear hx hy
                go_wp2_with fail
                go_roundw
                case rel => exact ⟨kk, i2 + 1 + 1, M, hk1, by omega, by omega, by omega, rfl, by go_num, HM, HWE.out, HBE.out⟩
                case measure => simp [intOf]; omega
              · have hne : (X2 != Y2) = true := by simpa using hxy
                go_wp2_with fail
                go_region
                generalize wr.drew = wd at *
                clear hx hy
                obtain ⟨hx, ⟨y9, hy⟩, hfz⟩ := HXM.out wd HWE.out
                have HWF : Hid ((wd.setCell ⟨b, kk, none⟩ (.int .i64 X2)).ownsRow B 2 1 (.slice (some ⟨b, 0, none⟩) n cap) n (ints (M.set kk X2))) := own_setL HWE.out kk X2
                have HBF : Hid (Below B w (wd.setCell ⟨b, kk, none⟩ (.int .i64 X2))) := HBE.out.setCell hBb _
                have HMF : Hid ((M.set kk X2).length = n) := by show _ = _; rw [List.length_set]; exact HM.out
                clear HXM HWE HBE hxy hne
                have hkk : (kk : Int) < n := by omega
                go_wp2_with fail
                generalize wd.setCell ⟨b, kk, none⟩ (.int .i64 X2) = we at *
                go_roundw
                case rel => exact ⟨kk + 1, i2 + 1 + 1, M.set kk X2, by omega, by omega, by omega, by omega, by go_num, by go_num, HMF, HWF.out, HBF.out⟩
                case measure => simp [intOf]; omega
            · have hlt3 : ¬ (k2 : Int) < ((n - (j + 1) : Nat) : Int) := by omega
              have hkn : kk < n := by omega
              obtain ⟨b', cap', e9, -, hc⟩ := own_partsL HW2.out (by omega)
              cases e9
              have hs1 : ∀ w' : World, (Instr.slice 32 (.slice (some ⟨b, 0, none⟩) n cap) (some (.int .i64 (kk : Int))) none none).run Try.prog w' = .ok (.slice (some ⟨b, kk, none⟩) (n - kk) (cap - kk)) w' := fun w' => by
                have := cutI b 0 n cap kk (by omega) (by omega) w'
                rwa [Nat.zero_add] at this
              have hs2 := fun w' => cutH b 0 n cap kk (by omega) w'
              have hcl : ∀ ty, (Builtin.clear_ #[32] ty #[.slice (some ⟨b, kk, none⟩) (n - kk) (cap - kk)]).run Try.prog wr = .ok (.tuple #[]) (wr.setCells b kk (List.replicate (n - kk) (.int .i64 0))) := fun ty =>
                Lib.run_clear_slice wr _ _ ty _ Try.underlying32 zero2 rfl rfl b kk _ _ (by omega) (fun q hq => by rw [(hc (kk + q) (by omega)).1]; rfl) (fun q hq => (hc (kk + q) (by omega)).2)
              have HR := hide (HFIN.out kk (wr.setCells b kk (List.replicate (n - kk) (.int .i64 0))) ⟨fun h => by omega, fun h => absurd h HNA.out⟩ (by omega) (below_setCells hBb _ _ _ HB2.out))
              clear HFIN HNA hc HW2 HB2 HM HN
              generalize wr.setCells b kk (List.replicate (n - kk) (.int .i64 0)) = we at *
              go_wp2_with fail
              go_ret
              exact HR.out
        · have hxb : (X == Y) = false := by simpa using hxy
          have HA2 := hide (HEQ.out (fun e => hxy e.symm))
          clear HNE HEQ hxy
          go_wp2_with fail
          go_region
          generalize wr.drew = wd at *
          clear hx hy
          go_wp2_with fail
          go_roundw
          case rel => exact ⟨j + 1 + 1, by omega, by omega, by go_num, HA2, HWD.out, HBD.out⟩
          case measure => simp [intOf]; omega
      · obtain rfl : k = n := by omega
        have HR := hide (HFIN.out k wr ⟨fun _ => HADJ.out.2 HA.out, fun _ => rfl⟩ (Nat.le_refl _) HB.out)
        clear HFIN HADJ HA HW HB HN
        go_wp2_with fail
        go_ret
        exact HR.out

end Go.Proofs.Ytlailkoikcjecaa
