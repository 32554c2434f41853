/- The lines through a place, as an iterator gives them. -/
import Derived.Test.YtedjnemijeaeoaaItb
namespace Go.Proofs.Ytedjnemijeaeoaa
open Go.RowKit Go.Shelf

attribute [local go_sem] Oper.semAt_some

theorem mul_le_pp {a b p : Nat} (ha : a ≤ p) (hb : b ≤ p) (hp : p ≤ 64) : a * b ≤ 4096 :=
  Nat.le_trans (Nat.mul_le_mul ha hb) (Nat.mul_le_mul hp hp)

set_option maxRecDepth 100000 in
set_option maxHeartbeats 4000000 in
theorem placesOn_gv (l p : Nat) (hp : 1 ≤ p) (hp2 : p ≤ 64) (hl : l < (p + 1) * p) (b1 b2 b3 : Nat) (S : Nat → Prop) (w : World) (hB : Bx3 b1 b2 b3 p (l / p : Nat) (l % p : Nat) w) (s1 : S b1) (s2 : S b2) (s3 : S b3) :
    Gv Try.prog 55 #[.pointer (some ⟨b1, 0, none⟩), .pointer (some ⟨b2, 0, none⟩), .pointer (some ⟨b3, 0, none⟩)] (fl (fun j => ((Lnm.plc p l j : Nat) : Int)) p) S w := by
  intro l1 J W hb hJ hY h0
  obtain ⟨c1, c2, c3⟩ := hB.ks (KS.below (S := S) hb) s1 s2 s3
  have HB := hide (hB.ks (KS.below (S := S) hb) s1 s2 s3)
  have hm1 : l / p ≤ p := by
    have := Nat.div_lt_of_lt_mul (show l < p * (p + 1) by rw [Nat.mul_comm]; exact hl)
    omega
  have hm2 : l % p < p := Nat.mod_lt _ hp
  have hg : ∀ k, Lnm.plc p l k = if l / p = p then k * p + l % p else ((l / p * k + l % p) % p) * p + k := fun _ => rfl
  obtain ⟨g, hgg⟩ : ∃ g : Nat → Nat, g = Lnm.plc p l := ⟨_, rfl⟩
  rw [← hgg] at hY ⊢
  rw [← hgg] at hg
  generalize l / p = m at *
  generalize l % p = t at *
  clear hB hb hl hgg
  refine (callsIn_wide (n := 3)).1 ?_
  refine callsIn_of_wp Try.func55 rfl trivial ?_ rfl
  simp only [Try.ntmps55, List.size_toArray, List.length_cons, List.length_nil, Nat.reduceAdd, Nat.reduceSub, Array.replicate_succ, Array.replicate_zero, List.push_toArray, List.append_toArray, List.nil_append, List.cons_append]
  have HG := hide hg
  have HM := hide hm1
  have HT := hide hm2
  clear hg hm1 hm2
  gi_wp2
  gi_loopw [5, 6, 7, 9] (fun _ _ _ i wr => ∃ k : Nat, k ≤ p ∧ i = .int .i64 k ∧ J (fl (fun j => ((g j : Nat) : Int)) k) wr ∧ KS (fun k => S k ∨ W.heap.size ≤ k) W wr) (fun _ _ _ i _ => p - (intOf i).toNat)
  case atStart => exact ⟨0, Nat.zero_le _, rfl, h0, KS.refl _ _⟩
  case round =>
    obtain ⟨k, hk, rfl, hJs, hnx⟩ := hrel
    clear c1 c2 c3
    obtain ⟨c1, c2, c3⟩ := HB.out.ks hnx (.inl s1) (.inl s2) (.inl s3)
    by_cases hlt : k < p
    · have hA := mul_le_pp HM.out (show k ≤ p by omega) hp2
      have hmod : (m * k + t) % p < p := Nat.mod_lt _ hp
      have hC := mul_le_pp (show (m * k + t) % p ≤ p by omega) (Nat.le_refl p) hp2
      have hD := mul_le_pp (show k ≤ p by omega) (Nat.le_refl p) hp2
      have hT := HT.out
      have wA : IntKind.i64.wrap ((m : Int) * (k : Int)) = ((m * k : Nat) : Int) := by rw [IntKind.wrap_i64, ← Int.natCast_mul]; omega
      have wD : IntKind.i64.wrap ((k : Int) * (p : Int)) = ((k * p : Nat) : Int) := by rw [IntKind.wrap_i64, ← Int.natCast_mul]; omega
      have hgk := HG.out k
      have cM := n_modulo_any ((m * k + t : Nat) : Int) p hp (by omega)
      rw [show ((m * k + t : Nat) : Int) % (p : Int) = (((m * k + t) % p : Nat) : Int) from rfl] at cM
      have wC : IntKind.i64.wrap ((((m * k + t) % p : Nat) : Int) * (p : Int)) = (((m * k + t) % p * p : Nat) : Int) := by rw [IntKind.wrap_i64, ← Int.natCast_mul]; omega
      generalize (m * k + t) % p * p = C at *
      generalize (m * k + t) % p = Y at *
      generalize k * p = D at *
      generalize m * k = A at *
      have wB : IntKind.i64.wrap ((A : Int) + (t : Int)) = ((A + t : Nat) : Int) := by rw [IntKind.wrap_i64]; omega
      obtain ⟨fn, tmps, assign, body, hy, hR⟩ := YieldAt.any (3 - 1) (hY _ ((g k : Nat) : Int) wr hJs (fl_prefix (fun j => ((g j : Nat) : Int)) (show k + 1 ≤ p by omega)))
      have HF : Hid (∀ W', J (fl (fun j => ((g j : Nat) : Int)) k ++ [((g k : Nat) : Int)]) W' → J (fl (fun j => ((g j : Nat) : Int)) (k + 1)) W') := fun _ h => h
      have HK := hide hnx
      have HJ := hide hJs
      clear hY HB HG HM HT hnx hJs hmod
      by_cases hmp : m = p
      · rw [if_pos hmp] at hgk
        subst hmp
        have wE : IntKind.i64.wrap ((D : Int) + (t : Int)) = ((g k : Nat) : Int) := by rw [IntKind.wrap_i64, hgk]; omega
        generalize g k = G at *
        clear hgk hA hC hD wC
        gi_wp2_with (refine ⟨trivial, ?_⟩; gi_at_call 56; refine (callsIn_wide.2 (cM _)).mono ?_; rintro e w' ⟨rfl, rfl⟩)
        refine hR.mono ?_
        rintro e W3 ⟨rfl, hJ3, hk3⟩
        gi_wp2
        go_roundw
        case rel => exact ⟨k + 1, by omega, by simp, HF.out _ hJ3, HK.out.trans hk3⟩
        case measure => simp [intOf]; omega
      · rw [if_neg hmp] at hgk
        have wE : IntKind.i64.wrap ((C : Int) + (k : Int)) = ((g k : Nat) : Int) := by rw [IntKind.wrap_i64, hgk]; omega
        generalize g k = G at *
        have hmp' : ((m : Int) == (p : Int)) = false := by simp; omega
        clear hgk hA hC hD wD hmp
        gi_wp2_with (refine ⟨trivial, ?_⟩; gi_at_call 56; refine (callsIn_wide.2 (cM _)).mono ?_; rintro e w' ⟨rfl, rfl⟩)
        refine hR.mono ?_
        rintro e W3 ⟨rfl, hJ3, hk3⟩
        gi_wp2
        go_roundw
        case rel => exact ⟨k + 1, by omega, by simp, HF.out _ hJ3, HK.out.trans hk3⟩
        case measure => simp [intOf]; omega
    · obtain rfl : k = p := by omega
      gi_wp2
      go_end0
      exact ⟨⟨_, rfl⟩, hJs⟩

end Go.Proofs.Ytedjnemijeaeoaa

namespace Go.Proofs.Ytedjnemijeaeoaa
open Go.RowKit Go.Shelf

attribute [local go_sem] Oper.semAt_some

set_option maxRecDepth 100000 in
set_option maxHeartbeats 4000000 in
theorem linesThrough_gv (x y p : Nat) (hp : 1 ≤ p) (hp2 : p ≤ 64) (hx : x < p) (hyp : y < p) (b1 b2 b3 : Nat) (S : Nat → Prop) (w : World) (hB : Bx3 b1 b2 b3 p (y : Nat) (x : Nat) w) (s1 : S b1) (s2 : S b2) (s3 : S b3) :
    Gv Try.prog 70 #[.pointer (some ⟨b1, 0, none⟩), .pointer (some ⟨b2, 0, none⟩), .pointer (some ⟨b3, 0, none⟩)] (fl (fun m => ((Lnm.thr p x y m : Nat) : Int)) (p + 1)) S w := by
  intro l1 J W hb hJ hY h0
  obtain ⟨c1, c2, c3⟩ := hB.ks (KS.below (S := S) hb) s1 s2 s3
  have HB := hide (hB.ks (KS.below (S := S) hb) s1 s2 s3)
  have hg1 : ∀ k, k < p → Lnm.thr p x y k = k * p + Lnm.tt p x y k := fun k hk => if_neg (by omega)
  have hg2 : Lnm.thr p x y p = p * p + x := if_pos rfl
  obtain ⟨g, hgg⟩ : ∃ g : Nat → Nat, g = Lnm.thr p x y := ⟨_, rfl⟩
  rw [← hgg] at hY hg1 hg2 ⊢
  have HG1 := hide hg1
  have HG2 := hide hg2
  clear hB hb hgg hg1 hg2
  refine (callsIn_wide (n := 3)).1 ?_
  refine callsIn_of_wp Try.func70 rfl trivial ?_ rfl
  simp only [Try.ntmps70, List.size_toArray, List.length_cons, List.length_nil, Nat.reduceAdd, Nat.reduceSub, Array.replicate_succ, Array.replicate_zero, List.push_toArray, List.append_toArray, List.nil_append, List.cons_append]
  gi_wp2
  gi_loopw [5, 7] (fun _ i wr => ∃ k : Nat, k ≤ p ∧ i = .int .i64 k ∧ J (fl (fun j => ((g j : Nat) : Int)) k) wr ∧ KS (fun k => S k ∨ W.heap.size ≤ k) W wr) (fun _ i _ => p - (intOf i).toNat)
  case atStart => exact ⟨0, Nat.zero_le _, rfl, h0, KS.refl _ _⟩
  case round =>
    obtain ⟨k, hk, rfl, hJs, hnx⟩ := hrel
    clear c1 c2 c3
    obtain ⟨c1, c2, c3⟩ := HB.out.ks hnx (.inl s1) (.inl s2) (.inl s3)
    by_cases hlt : k < p
    · have hA := mul_le_pp (show k ≤ p by omega) (show x ≤ p by omega) hp2
      have hD := mul_le_pp (show k ≤ p by omega) (Nat.le_refl p) hp2
      have wA : IntKind.i64.wrap ((k : Int) * (x : Int)) = ((k * x : Nat) : Int) := by rw [IntKind.wrap_i64, ← Int.natCast_mul]; omega
      have wD : IntKind.i64.wrap ((k : Int) * (p : Int)) = ((k * p : Nat) : Int) := by rw [IntKind.wrap_i64, ← Int.natCast_mul]; omega
      have hgk := HG1.out k hlt
      have htt := Lnm.tt_lt (show 0 < p by omega) x y k
      have cM := n_modulo_any ((y : Int) - ((k * x : Nat) : Int)) p hp (by omega)
      have hte : ((y : Int) - ((k * x : Nat) : Int)) % (p : Int) = ((Lnm.tt p x y k : Nat) : Int) := by
        have := Int.emod_nonneg ((y : Int) - (k : Int) * (x : Int)) (show (p : Int) ≠ 0 by omega)
        unfold Lnm.tt
        rw [Int.natCast_mul]
        omega
      rw [hte] at cM
      clear hte
      generalize Lnm.tt p x y k = T at *
      generalize k * p = D at *
      generalize k * x = A at *
      have wB : IntKind.i64.wrap ((y : Int) - (A : Int)) = (y : Int) - (A : Int) := by rw [IntKind.wrap_i64]; omega
      have wE : IntKind.i64.wrap ((D : Int) + (T : Int)) = ((g k : Nat) : Int) := by rw [IntKind.wrap_i64, hgk]; omega
      obtain ⟨fn, tmps, assign, body, hy, hR⟩ := YieldAt.any (3 - 1) (hY _ ((g k : Nat) : Int) wr.drew (OwnFrom.drew hJ hJs) (fl_prefix (fun j => ((g j : Nat) : Int)) (show k + 1 ≤ p + 1 by omega)))
      have HF : Hid (∀ W', J (fl (fun j => ((g j : Nat) : Int)) k ++ [((g k : Nat) : Int)]) W' → J (fl (fun j => ((g j : Nat) : Int)) (k + 1)) W') := fun _ h => h
      have HK := hide hnx
      generalize g k = G at *
      clear hY HB HG1 HG2 hnx hJs hgk hA hD htt
      gi_wp2
      gi_region_with (first | (refine ⟨trivial, ?_⟩; gi_at_call 56; refine (callsIn_wide.2 (cM _)).mono ?_; rintro e w' ⟨rfl, rfl⟩) | (gi_at_call 56; refine (callsIn_wide.2 (cM _)).mono ?_; rintro e w' ⟨rfl, rfl⟩) | (refine hR.mono ?_; rintro e W3 ⟨rfl, hJ3, hk3⟩))
      all_goals
        gi_wp2
        go_roundw
        case rel => exact ⟨k + 1, by omega, by simp, HF.out _ hJ3, HK.out.trans ((KS.drew wr).trans hk3)⟩
        case measure => simp [intOf]; omega
    · obtain rfl : k = p := by omega
      have hD := mul_le_pp (Nat.le_refl k) (Nat.le_refl k) hp2
      have wD : IntKind.i64.wrap ((k : Int) * (k : Int)) = ((k * k : Nat) : Int) := by rw [IntKind.wrap_i64, ← Int.natCast_mul]; omega
      have hgk := HG2.out
      generalize k * k = D at *
      have wE : IntKind.i64.wrap ((D : Int) + (x : Int)) = ((g k : Nat) : Int) := by rw [IntKind.wrap_i64, hgk]; omega
      obtain ⟨fn, tmps, assign, body, hy, hR⟩ := YieldAt.any (3 - 1) (hY _ ((g k : Nat) : Int) wr hJs (List.prefix_refl _))
      have HF : Hid (∀ W', J (fl (fun j => ((g j : Nat) : Int)) k ++ [((g k : Nat) : Int)]) W' → J (fl (fun j => ((g j : Nat) : Int)) (k + 1)) W') := fun _ h => h
      generalize g k = G at *
      clear hY HB HG1 HG2 hnx hJs hgk hD
      gi_wp2
      refine hR.mono ?_
      rintro e W3 ⟨rfl, hJ3, hk3⟩
      gi_wp2
      go_end0
      exact ⟨⟨_, rfl⟩, HF.out _ hJ3⟩

end Go.Proofs.Ytedjnemijeaeoaa
