/- Right lists of elements: the program. -/
import Derived.Test.YteadhhhhnihoaaaEly
namespace Go.Proofs.Yteadhhhhnihoaaa
open Go.RowKit

theorem lev_iff {E : Nat → El} {i en : Nat} {d : Int} {it : Bool} {last : Int} (h : i < en) :
    lev E i en d it last = true ↔ d ≤ 8 ∧ hdB E i en it last = true ∧ lev E (i + 1) (nxt E i) (d + 1) (decide ((E i).k = 5)) (-1) = true ∧ lev E (nxt E i) en d it (lstB E i it last) = true := by
  by_cases hd : d ≤ 8
  · cases hh : hdB E i en it last with
    | false => rw [lev_bad h hh]; simp
    | true => rw [lev_good h hd hh, Bool.and_eq_true]; simp [hd]
  · rw [lev_deep h hd]; simp [hd]
theorem fstB_iff {E : Nat → El} {m : Nat} {d : Int} {g n k : Int} {t : ByteArray} {l : Nat} {f : Nat → Int} {s : Int} (h : E 0 = ⟨g, n, k, t, l, f, s⟩) :
    fstB E m d = true ↔ d ≤ 8 ∧ (0 ≤ s ∧ s ≤ (m : Int) - 1) ∧ valB k t l f = true ∧ (if k = 5 then lev E 1 (1 + s.toNat) (d + 1) true (-1) = true else if k = 6 then lev E 1 (1 + s.toNat) (d + 1) false (-1) = true else s = 0) := by
  have hn : nxt E 0 = 1 + s.toNat := by unfold nxt; rw [h]
  unfold fstB
  rw [hn, h]
  simp only [Bool.and_eq_true, decide_eq_true_eq, and_assoc]
  by_cases k5 : k = 5
  · simp only [if_pos k5]
  · simp only [if_neg k5]
    by_cases k6 : k = 6
    · simp only [if_pos k6]
    · simp only [if_neg k6, decide_eq_true_eq]
/-- a level is right just if its first element is and the rest -/
theorem lev_first {E : Nat → El} {p m : Nat} {d : Int} {it : Bool} {last : Int} {g n k : Int} {t : ByteArray} {l : Nat} {f : Nat → Int} {s : Int} (hp : p < m) (h : E p = ⟨g, n, k, t, l, f, s⟩) :
    lev E p m d it last = true ↔ decide (k = 6) = it ∧ ((it = true ∧ g = 0 ∧ n = 0) ∨ (it = false ∧ tagB g n = true ∧ last < g * 65536 + n)) ∧ fstB (fun q => E (p + q)) (m - p) d = true ∧ lev E (p + 1 + s.toNat) m d it (if it = true then last else g * 65536 + n) = true := by
  have hn : nxt E p = p + 1 + s.toNat := by unfold nxt; rw [h]
  have hls : lstB E p it last = if it = true then last else g * 65536 + n := by unfold lstB; rw [h]
  have hk : (E p).k = k := by rw [h]
  have hsh : ∀ e it', lev (fun q => E (p + q)) 1 (1 + e) (d + 1) it' (-1) = lev E (p + 1) (p + 1 + e) (d + 1) it' (-1) := fun e it' => by rw [lev_shift', Nat.add_assoc]
  rw [lev_iff hp, hdB_iff h, fstB_iff (E := fun q => E (p + q)) (g := g) (n := n) (k := k) (t := t) (l := l) (f := f) (s := s) h, hn, hls, hk, hsh, hsh]
  constructor
  · rintro ⟨h1, ⟨h2, h3, h4, h5, h6⟩, h7, h8⟩
    refine ⟨h3, h5, ⟨h1, by omega, h2, ?_⟩, h8⟩
    by_cases k5 : k = 5
    · rw [if_pos k5]; rw [decide_eq_true k5] at h7; exact h7
    · rw [if_neg k5]
      rw [decide_eq_false k5] at h7
      by_cases k6 : k = 6
      · rw [if_pos k6]; exact h7
      · rw [if_neg k6]; omega
  · rintro ⟨h3, h5, ⟨h1, h4, h2, h7⟩, h8⟩
    by_cases k5 : k = 5
    · rw [if_pos k5] at h7
      exact ⟨h1, ⟨h2, h3, by omega, h5, .inl k5⟩, by rw [decide_eq_true k5]; exact h7, h8⟩
    · rw [if_neg k5] at h7
      by_cases k6 : k = 6
      · rw [if_pos k6] at h7
        exact ⟨h1, ⟨h2, h3, by omega, h5, .inr (.inl k6)⟩, by rw [decide_eq_false k5]; exact h7, h8⟩
      · rw [if_neg k6] at h7
        refine ⟨h1, ⟨h2, h3, by omega, h5, .inr (.inr h7)⟩, ?_, h8⟩
        exact lev_end (by rw [h7]; simp)

set_option maxRecDepth 100000 in
set_option maxHeartbeats 4000000 in
theorem first_step (N : Nat) (hL : AskL N) (hI : AskI N) : AskF (N + 1) := by
  intro a m cap ad cp E d w hm0 hmN hm hmc hln hd1 hd9 h
  have HL := hide hL
  have HI := hide hI
  have HLn := hide hln
  obtain ⟨b, off, rfl, z0, z1, z2, z3, z4, z5⟩ := h.at hm0
  have hpx := h.2 0 hm0
  have hl0 := hln 0 hm0
  obtain ⟨g, n, k, t, l, f, s, hE⟩ : ∃ g n k t l f s, E 0 = ⟨g, n, k, t, l, f, s⟩ := ⟨_, _, _, _, _, _, _, rfl⟩
  rw [hE] at z0 z1 z2 z3 z4 z5 hpx hl0
  simp only [Nat.zero_mul, Nat.add_zero] at z0 z1 z2 z3 z4 z5 hpx hl0
  have HF := hide (fstB_iff (m := m) (d := d) hE)
  have HNo : Hid (¬ (d ≤ 8 ∧ (0 ≤ s ∧ s ≤ (m : Int) - 1) ∧ valB k t l f = true ∧ (if k = 5 then lev E 1 (1 + s.toNat) (d + 1) true (-1) = true else if k = 6 then lev E 1 (1 + s.toNat) (d + 1) false (-1) = true else s = 0)) → fstB E m d = false) := fun x => by rw [Bool.eq_false_iff]; exact fun y => x (HF.out.1 y)
  have HP := hide h
  have C0 := C6.newP ⟨g, n, k, t, l, f, s⟩ (ad 0) (cp 0) 53 w
  simp only at C0
  have HC0 := hide C0
  have HBa : Hid (Below w.heap.size w (w.alloc (.cells #[.int .i64 g, .int .i64 n, .int .i64 k, .string t, .slice (ad 0) l (cp 0), .int .i64 s] 53))) := bnew _ _
  have HPa := hide (hpx.below HBa.out)
  clear hL hI hln h hpx C0 hE
  generalize had : ad 0 = adj at *
  generalize hcp : cp 0 = cpj at *
  clear had hcp
  by_cases h8 : d ≤ 8
  · have c8 : ¬ (8 : Int) < d := by omega
    have wm : IntKind.i64.wrap ((m : Int) - 1) = (m : Int) - 1 := by rw [IntKind.wrap_i64]; omega
    have cW := fun w' => within_any s 0 ((m : Int) - 1) w'
    by_cases hs : 0 ≤ s ∧ s ≤ (m : Int) - 1
    · have e1 : inB s 0 ((m : Int) - 1) = true := by simp [inB]; omega
      rw [e1] at cW
      obtain ⟨S, rfl⟩ : ∃ S : Nat, s = (S : Int) := ⟨s.toNat, by omega⟩
      have cV := fun w' h' => hasValue_any g n k t adj l cpj f (S : Int) hl0 w' h'
      cases hv : valB k t l f with
      | false =>
        have HR := hide (HNo.out (fun x => by rw [hv] at x; exact Bool.noConfusion x.2.2.1))
        rw [hv] at cV
        clear HNo HF HL HI HLn HP
        go_enter Try.func48, Try.ntmps48
        go_wp2_with fail
        refine (cW _).mono ?_
        rintro _ _ ⟨rfl, rfl⟩
        go_wp2_with fail
        refine (cV _ HPa.out).mono ?_
        rintro e w1 ⟨rfl, hb1⟩
        have HBx := hide (HBa.out.trans (hb1.mono (by simp)))
        clear hb1 cV
        go_wp2_with fail
        go_ret
        exact ⟨by rw [HR.out]; rfl, HBx.out⟩
      | true =>
        rw [hv] at cV
        rw [Int.toNat_natCast] at HF HNo
        have w2' : IntKind.i64.wrap (1 + (S : Int)) = 1 + (S : Int) := by rw [IntKind.wrap_i64]; omega
        have w3' : IntKind.i64.wrap (d + 1) = d + 1 := by rw [IntKind.wrap_i64]; omega
        have hcut := fun w' => cut_mid b off m cap S (by omega) w'
        have HHv := hide hv
        have HHs := hide hs
        clear hv
        go_enter Try.func48, Try.ntmps48
        go_wp2_with fail
        refine (cW _).mono ?_
        rintro _ _ ⟨rfl, rfl⟩
        go_wp2_with fail
        refine (cV _ HPa.out).mono ?_
        rintro e w1 ⟨rfl, hb1⟩
        obtain ⟨i0, i1, i2, i3, i4, i5⟩ := HC0.out.below hb1
        rw [Nat.zero_add] at i2 i5
        have HBx := hide (HBa.out.trans (hb1.mono (by simp)))
        have HPc := hide (PxE.cut (HP.out.below HBx.out) hmc 1 S (by omega))
        clear hb1 cV i0 i1 i3 i4 z0 z1 z2 z3 z4 z5 HP HC0 HPa HBa cW
        have HLn2 : Hid (∀ i, i < S → (E (1 + i)).ln ≤ 1048576) := fun i hi => HLn.out (1 + i) (by omega)
        by_cases k5 : k = 5
        · subst k5
          have cI := HI.out (cutA b off cap 1) S (cap - 1) _ _ (fun i => E (1 + i)) (d + 1) w1 (by omega) (by omega) (by omega) HLn2.out (by omega) (by omega) HPc.out
          rw [lev_shift'] at cI
          have HR : Hid (fstB E m d = lev E (1 + 0) (1 + S) (d + 1) true (-1)) := by
            show _ = _
            rw [Bool.eq_iff_iff, HF.out, if_pos rfl]
            exact ⟨fun x => x.2.2.2, fun x => ⟨h8, HHs.out, HHv.out, x⟩⟩
          generalize lev E (1 + 0) (1 + S) (d + 1) true (-1) = r at *
          clear HNo HF HL HI HLn HLn2 HPc
          go_wp2_with fail
          refine cI.mono ?_
          rintro e w2 ⟨rfl, hb2⟩
          have HBy := hide (bnext HBx.out (Nat.le_refl _) hb2)
          clear hb2 cI
          go_wp2_with fail
          go_ret
          exact ⟨by rw [HR.out]; rfl, HBy.out⟩
        · have k5' : (k == 5) = false := beq_false_of_ne k5
          by_cases k6 : k = 6
          · subst k6
            have cI := HL.out (cutA b off cap 1) S (cap - 1) _ _ (fun i => E (1 + i)) (d + 1) w1 (by omega) (by omega) (by omega) HLn2.out (by omega) (by omega) HPc.out
            rw [lev_shift'] at cI
            have HR : Hid (fstB E m d = lev E (1 + 0) (1 + S) (d + 1) false (-1)) := by
              show _ = _
              rw [Bool.eq_iff_iff, HF.out, if_neg k5, if_pos rfl]
              exact ⟨fun x => x.2.2.2, fun x => ⟨h8, HHs.out, HHv.out, x⟩⟩
            generalize lev E (1 + 0) (1 + S) (d + 1) false (-1) = r at *
            clear HNo HF HL HI HLn HLn2 HPc k5
            go_wp2_with fail
            refine cI.mono ?_
            rintro e w2 ⟨rfl, hb2⟩
            have HBy := hide (bnext HBx.out (Nat.le_refl _) hb2)
            clear hb2 cI
            go_wp2_with fail
            go_ret
            exact ⟨by rw [HR.out]; rfl, HBy.out⟩
          · have k6' : (k == 6) = false := beq_false_of_ne k6
            have HR : Hid (fstB E m d = ((S : Int) == 0)) := by
              show _ = _
              rw [Bool.eq_iff_iff, HF.out, if_neg k5, if_neg k6]
              simp only [beq_iff_eq]
              exact ⟨fun x => x.2.2.2, fun x => ⟨h8, HHs.out, HHv.out, x⟩⟩
            clear HNo HF HL HI HLn HLn2 HPc k5 k6
            go_wp2_with fail
            go_ret
            exact ⟨by rw [HR.out]; rfl, HBx.out⟩
    · have e1 : inB s 0 ((m : Int) - 1) = false := by rw [Bool.eq_false_iff]; intro x; simp [inB] at x; omega
      rw [e1] at cW
      have HR := hide (HNo.out (fun x => hs x.2.1))
      clear HNo HF HL HI HLn HP hs
      go_enter Try.func48, Try.ntmps48
      go_wp2_with fail
      refine (cW _).mono ?_
      rintro _ _ ⟨rfl, rfl⟩
      go_wp2_with fail
      go_ret
      exact ⟨by rw [HR.out]; rfl, HBa.out⟩
  · have c8 : (8 : Int) < d := by omega
    have HR := hide (HNo.out (fun x => h8 x.1))
    clear HNo HF HL HI HLn HP
    go_enter Try.func48, Try.ntmps48
    go_wp2_with fail
    go_ret
    exact ⟨by rw [HR.out]; rfl, HBa.out⟩

end Go.Proofs.Yteadhhhhnihoaaa
