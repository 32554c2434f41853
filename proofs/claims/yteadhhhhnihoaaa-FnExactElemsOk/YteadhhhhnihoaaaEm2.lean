/- Right lists of elements: the program's items. -/
import Derived.Test.YteadhhhhnihoaaaEm1
namespace Go.Proofs.Yteadhhhhnihoaaa
open Go.RowKit

set_option maxRecDepth 100000 in
set_option maxHeartbeats 4000000 in
theorem items_step (N : Nat) (hF : AskF N) : AskI N := by
  intro a m cap ad cp E d w hmN hm hmc hln hd1 hd9 h
  have HF := hide hF
  have HLn := hide hln
  have HP0 := hide h
  clear hF hln h
  go_enter Try.func50, Try.ntmps50
  go_wp2_with fail
  go_loopw [0, 5] (fun v _ wr => ∃ (p : Nat) (a' : Option Addr), p ≤ m ∧ v = .slice a' (m - p) (cap - p) ∧ PxE a' (m - p) (fun i => ad (p + i)) (fun i => cp (p + i)) (fun i => E (p + i)) wr ∧ lev E 0 m d true (-1) = lev E p m d true (-1) ∧ Below w.heap.size w wr) (fun v _ _ => slN v)
  case atStart => exact ⟨0, a, by omega, rfl, by simpa using HP0.out, rfl, Below.refl _ _⟩
  case round =>
    obtain ⟨p, a', hp, rfl, hpx, hlev, hb⟩ := hrel
    have HBw := hide hb
    have HLev := hide hlev
    clear HP0 hb hlev
    by_cases hlt : p < m
    · obtain ⟨M, hM⟩ : ∃ M, M = m - p := ⟨_, rfl⟩
      obtain ⟨K, hK⟩ : ∃ K, K = cap - p := ⟨_, rfl⟩
      rw [← hM] at hpx ⊢
      rw [← hK]
      have hM0 : (0 : Int) < (M : Int) := by omega
      obtain ⟨b, off, rfl, z0, z1, z2, z3, z4, z5⟩ := hpx.at (show 0 < M by omega)
      obtain ⟨g, n, k, t, l, f, s, hE⟩ : ∃ g n k t l f s, E p = ⟨g, n, k, t, l, f, s⟩ := ⟨_, _, _, _, _, _, _, rfl⟩
      simp only [Nat.zero_mul, Nat.add_zero, hE] at z0 z1 z2 z3 z4 z5
      have HFi := hide (lev_first (d := d) (it := true) (last := -1) hlt hE)
      rw [← hM] at HFi
      have C0 := C6.newP ⟨g, n, k, t, l, f, s⟩ (ad p) (cp p) 53 wr
      simp only at C0
      have HC0 := hide C0
      have HBa : Hid (Below wr.heap.size wr (wr.alloc (.cells #[.int .i64 g, .int .i64 n, .int .i64 k, .string t, .slice (ad p) l (cp p), .int .i64 s] 53))) := bnew _ _
      have HPx := hide hpx
      have HNo : Hid (¬ (k = 6 ∧ (g = 0 ∧ n = 0) ∧ fstB (fun q => E (p + q)) M d = true) → lev E 0 m d true (-1) = false) := fun x => by
        rw [HLev.out, Bool.eq_false_iff]
        intro y
        obtain ⟨y1, y2, y3, _⟩ := HFi.out.1 y
        refine x ⟨of_decide_eq_true y1, ?_, y3⟩
        rcases y2 with y2 | y2
        · exact y2.2
        · exact absurd y2.1 (by simp)
      have HYes : Hid (k = 6 → g = 0 → n = 0 → fstB (fun q => E (p + q)) M d = true → lev E 0 m d true (-1) = lev E (p + 1 + s.toNat) m d true (-1)) := fun x1 x2 x3 x4 => by
        rw [HLev.out, Bool.eq_iff_iff, HFi.out, if_pos rfl]
        exact ⟨fun y => y.2.2.2, fun y => ⟨decide_eq_true x1, .inl ⟨rfl, x2, x3⟩, x4, y⟩⟩
      have HSz : Hid (fstB (fun q => E (p + q)) M d = true → 0 ≤ s ∧ s ≤ (M : Int) - 1) := fun x => ((fstB_iff (E := fun q => E (p + q)) (g := g) (n := n) (k := k) (t := t) (l := l) (f := f) (s := s) hE).1 x).2.1
      have hM1 : M + p = m := by omega
      have hK1 : K + p = cap := by omega
      clear C0 hE HFi HLev hpx hM hK
      generalize ad p = adj at *
      generalize cp p = cpj at *
      by_cases k6 : k = 6
      · have k6' : (k != 6) = false := by simp [k6]
        have HK6 := hide k6
        clear k6
        by_cases g0 : g = 0
        · have g1 : (g != 0) = false := by simp [g0]
          have HG0 := hide g0
          clear g0
          by_cases n0 : n = 0
          · have n1 : (n != 0) = false := by simp [n0]
            have HN0 := hide n0
            clear n0
            have HPx2 := hide (HPx.out.below HBa.out)
            have HBx := hide (bnext HBw.out (Nat.le_refl _) HBa.out)
            have cF := HF.out (some ⟨b, off, none⟩) M K _ _ (fun q => E (p + q)) d _ (by omega) (by omega) (by omega) (by omega) (fun i hi => HLn.out (p + i) (by omega)) hd1 hd9 HPx2.out
            clear HPx
            cases hf : fstB (fun q => E (p + q)) M d with
            | false =>
              have HR := hide (HNo.out (fun x => by rw [hf] at x; exact Bool.noConfusion x.2.2))
              rw [hf] at cF
              clear HNo HYes HSz HLn
              go_wp2_with fail
              refine cF.mono ?_
              rintro e w2 ⟨rfl, hb2⟩
              have HBy := hide (bnext HBx.out (Nat.le_refl _) hb2)
              clear hb2 cF
              go_wp2_with fail
              go_ret
              exact ⟨by rw [HR.out]; rfl, HBy.out⟩
            | true =>
              rw [hf] at cF
              have hsz := HSz.out hf
              obtain ⟨S, rfl⟩ : ∃ S : Nat, s = (S : Int) := ⟨s.toNat, by omega⟩
              have HQ := hide (HYes.out HK6.out HG0.out HN0.out hf)
              rw [Int.toNat_natCast] at HQ
              have h1S : 1 + S ≤ M := by omega
              have hMK : M ≤ K := by omega
              have w2' : IntKind.i64.wrap (1 + (S : Int)) = 1 + (S : Int) := by rw [IntKind.wrap_i64]; omega
              have hcut := fun w' => cut_from1 b off M K S h1S w'
              clear HNo HYes HSz
              go_wp2_with fail
              refine cF.mono ?_
              rintro e w2 ⟨rfl, hb2⟩
              have HBy := hide (bnext HBx.out (Nat.le_refl _) hb2)
              have HPy := hide (PxE.cut (HPx2.out.below hb2) hMK (1 + S) (M - (1 + S)) (sz4 h1S))
              obtain ⟨-, -, -, -, -, i5⟩ := HC0.out.below hb2
              rw [Nat.zero_add] at i5
              clear hb2 cF z0 z1 z2 z3 z4 z5 HC0 HPx2 HBa
              go_wp2_with fail
              go_roundw
              case rel =>
                refine ⟨p + 1 + S, cutA b off K (1 + S), sz1 hM1 h1S, ?_, ?_, HQ.out, HBy.out⟩
                · rw [sz2 hM1, sz2 hK1]
                · rw [sh4 ad, sh4 cp, sh4 E, sz2 hM1]
                  exact HPy.out
              case measure => exact sz3 h1S
          · have n1 : (n != 0) = true := by simp [n0]
            have HR := hide (HNo.out (fun x => n0 x.2.1.2))
            have HBx := hide (bnext HBw.out (Nat.le_refl _) HBa.out)
            clear HNo HYes HSz HF HLn HPx
            go_wp2_with fail
            go_ret
            exact ⟨by rw [HR.out]; rfl, HBx.out⟩
        · have g1 : (g != 0) = true := by simp [g0]
          have HR := hide (HNo.out (fun x => g0 x.2.1.1))
          have HBx := hide (bnext HBw.out (Nat.le_refl _) HBa.out)
          clear HNo HYes HSz HF HLn HPx
          go_wp2_with fail
          go_ret
          exact ⟨by rw [HR.out]; rfl, HBx.out⟩
      · have k6' : (k != 6) = true := by simp [k6]
        have HR := hide (HNo.out (fun x => k6 x.1))
        have HBx := hide (bnext HBw.out (Nat.le_refl _) HBa.out)
        clear HNo HYes HSz HF HLn HPx
        go_wp2_with fail
        go_ret
        exact ⟨by rw [HR.out]; rfl, HBx.out⟩
    · have hM0 : m - p = 0 := by omega
      have HR : Hid (lev E 0 m d true (-1) = true) := HLev.out.trans (lev_end hlt)
      rw [hM0]
      clear HLev HF HLn hpx
      go_wp2_with fail
      go_ret
      exact ⟨by rw [HR.out]; rfl, HBw.out⟩

end Go.Proofs.Yteadhhhhnihoaaa
