/- Deliver: the program. -/
import Derived.Test.YtocmbdckjdggiaaChk
import Derived.Test.YtocmbdckjdggiaaWal
import Derived.Test.YtocmbdckjdggiaaDvn
import Derived.RangeFuncBox
import Derived.Maps.AppendAt
import Derived.Deep.RegionLaw
import Derived.Deep.AppendLies
import Derived.Deep.Onto
import Derived.RangeFuncKeeps
import Derived.Test.YtocmbdckjdggiaaDsn
namespace Go.Proofs.Ytocmbdckjdggiaa
open Go.RowKit Go.Shelf

attribute [local go_sem] Oper.semAt_some

set_option maxRecDepth 100000 in
set_option maxHeartbeats 8000000 in
theorem implDeliver_any (a : Option Addr) (m cap : Nat) (K : Nat → Int) (hl : m ≤ 1048576) (a' : Option Addr) (n cap' : Nat) (r : Nat → Int) (hl' : n ≤ 1048576) (hcap : m ≤ cap) (w : World) (h : Px a m K w) (h' : Px a' n r w) :
    Calls Try.prog 38 #[.slice a m cap, .slice a' n cap'] w (LsR (dvN m n K r) (dvS K r n) w) := by
  have HS0 := hide ((St.start w).box [.slice a' n cap'] 24)
  have c0 := isRow_any a' n cap' r hl' _ (h'.below HS0.out.below)
  have cA := allWithin_any 0 1000 a m cap K hl _ (h.below HS0.out.below)
  have HP := hide h
  have HP' := hide h'
  clear h h'
  have HV : Hid (∀ p, (rlB n r && (decide (n ≠ 0) && (decide (m % n = 0) && (decide (m / n ≤ 1024) && alW K 0 1000 m)))) = p → dvB m n K r = p) := fun _ h => h
  have HB1 := hide HS0.out.below
  unfold dvN
  cases hq : rlB n r
  · rw [HV.out false (by rw [hq]; rfl)]
    rw [hq] at c0
    simp only [Bool.false_eq_true, if_false]
    clear hq HV HP HP' cA HS0
    refine (callsIn_wide (n := 3)).1 ?_
    refine callsIn_of_wp_marks Try.func38 rfl trivial ?_ rfl
    simp only [Try.ntmps38, List.size_toArray, List.length_cons, List.length_nil, Nat.reduceAdd, Nat.reduceSub, Array.replicate_succ, Array.replicate_zero, List.push_toArray, List.append_toArray, List.nil_append, List.cons_append]
    gi_wp2_with fail
    refine ⟨trivial, (callsIn_wide.2 c0).mono ?_⟩
    rintro e w1 ⟨rfl, rfl⟩
    gi_wp2_with fail
    rename_i hK0
    refine ⟨trivial, hK0 _ _ ?_⟩
    gi_wp2
    exact ⟨_, results_tmp rfl _ _ _, _, _, 0, rfl, .inl rfl, .inl rfl, HB1.out⟩
  rw [hq] at c0
  obtain ⟨hn64, hr⟩ := rlB_parts hq
  by_cases g0 : n = 0
  · subst g0
    rw [HV.out false (by rw [hq]; rfl)]
    simp only [Bool.false_eq_true, if_false]
    clear hq HV HP HP' hr cA HS0
    refine (callsIn_wide (n := 3)).1 ?_
    refine callsIn_of_wp_marks Try.func38 rfl trivial ?_ rfl
    simp only [Try.ntmps38, List.size_toArray, List.length_cons, List.length_nil, Nat.reduceAdd, Nat.reduceSub, Array.replicate_succ, Array.replicate_zero, List.push_toArray, List.append_toArray, List.nil_append, List.cons_append]
    gi_wp2_with fail
    refine ⟨trivial, (callsIn_wide.2 c0).mono ?_⟩
    rintro e w1 ⟨rfl, rfl⟩
    gi_wp2_with fail
    rename_i hK0
    refine ⟨trivial, hK0 _ _ ?_⟩
    gi_wp2
    exact ⟨_, results_tmp rfl _ _ _, _, _, 0, rfl, .inl rfl, .inl rfl, HB1.out⟩
  have g0' : ((n : Int) == 0) = false := beq_eq_false_iff_ne.2 (by omega)
  have hn0 : 0 < n := by omega
  have hnz : (n : Int) ≠ 0 := by omega
  have e1 : (m : Int).tmod (n : Int) = ((m % n : Nat) : Int) := by rw [Int.tmod_eq_emod_of_nonneg (by omega)]; simp
  have e2 : (m : Int).tdiv (n : Int) = ((m / n : Nat) : Int) := by rw [Int.tdiv_eq_ediv_of_nonneg (by omega)]; simp
  have hle := Nat.div_le_self m n
  by_cases g1 : ¬ m % n = 0
  · have g1' : (((m % n : Nat) : Int) != 0) = true := by
      have : ¬ ((m % n : Nat) : Int) = 0 := by omega
      simp only [bne_iff_ne, ne_eq]; exact this
    rw [HV.out false (by rw [hq, decide_eq_false g1, decide_eq_true (by omega : n ≠ 0)]; rfl)]
    simp only [Bool.false_eq_true, if_false]
    clear hq HV HP HP' hr g1 cA HS0
    generalize m % n = R at *
    generalize m / n = V at *
    refine (callsIn_wide (n := 3)).1 ?_
    refine callsIn_of_wp_marks Try.func38 rfl trivial ?_ rfl
    simp only [Try.ntmps38, List.size_toArray, List.length_cons, List.length_nil, Nat.reduceAdd, Nat.reduceSub, Array.replicate_succ, Array.replicate_zero, List.push_toArray, List.append_toArray, List.nil_append, List.cons_append]
    gi_wp2_with fail
    refine ⟨trivial, (callsIn_wide.2 c0).mono ?_⟩
    rintro e w1 ⟨rfl, rfl⟩
    gi_wp2_with fail
    rename_i hK0
    refine ⟨trivial, hK0 _ _ ?_⟩
    gi_wp2
    exact ⟨_, results_tmp rfl _ _ _, _, _, 0, rfl, .inl rfl, .inl rfl, HB1.out⟩
  have g1 : m % n = 0 := Decidable.not_not.1 g1
  have g1' : (((m % n : Nat) : Int) != 0) = false := by rw [g1]; rfl
  by_cases g2 : ¬ m / n ≤ 1024
  · have g2' : (1024 : Int) < ((m / n : Nat) : Int) := by omega
    rw [HV.out false (by rw [hq, decide_eq_true g1, decide_eq_false g2, decide_eq_true (by omega : n ≠ 0)]; rfl)]
    simp only [Bool.false_eq_true, if_false]
    clear hq HV HP HP' hr g1 g2 cA HS0
    generalize m % n = R at *
    generalize m / n = V at *
    refine (callsIn_wide (n := 3)).1 ?_
    refine callsIn_of_wp_marks Try.func38 rfl trivial ?_ rfl
    simp only [Try.ntmps38, List.size_toArray, List.length_cons, List.length_nil, Nat.reduceAdd, Nat.reduceSub, Array.replicate_succ, Array.replicate_zero, List.push_toArray, List.append_toArray, List.nil_append, List.cons_append]
    gi_wp2_with fail
    refine ⟨trivial, (callsIn_wide.2 c0).mono ?_⟩
    rintro e w1 ⟨rfl, rfl⟩
    gi_wp2_with fail
    rename_i hK0
    refine ⟨trivial, hK0 _ _ ?_⟩
    gi_wp2
    exact ⟨_, results_tmp rfl _ _ _, _, _, 0, rfl, .inl rfl, .inl rfl, HB1.out⟩
  have g2 : m / n ≤ 1024 := Decidable.not_not.1 g2
  have g2' : ¬ (1024 : Int) < ((m / n : Nat) : Int) := by omega
  have HM := hide g1
  cases q5 : alW K 0 1000 m
  · rw [HV.out false (by rw [hq, decide_eq_true g1, decide_eq_true g2, decide_eq_true (by omega : n ≠ 0), q5]; rfl)]
    rw [q5] at cA
    simp only [Bool.false_eq_true, if_false]
    clear hq HV HP HP' hr g1 g2 HS0 q5 HM
    generalize m % n = R at *
    generalize m / n = V at *
    refine (callsIn_wide (n := 3)).1 ?_
    refine callsIn_of_wp_marks Try.func38 rfl trivial ?_ rfl
    simp only [Try.ntmps38, List.size_toArray, List.length_cons, List.length_nil, Nat.reduceAdd, Nat.reduceSub, Array.replicate_succ, Array.replicate_zero, List.push_toArray, List.append_toArray, List.nil_append, List.cons_append]
    gi_wp2_with fail
    refine ⟨trivial, (callsIn_wide.2 c0).mono ?_⟩
    rintro e w1 ⟨rfl, rfl⟩
    gi_wp2_with fail
    refine ⟨trivial, (callsIn_wide.2 cA).mono ?_⟩
    rintro e w2 ⟨rfl, rfl⟩
    gi_wp2
    exact ⟨_, results_tmp rfl _ _ _, _, _, 0, rfl, .inl rfl, .inl rfl, HB1.out⟩
  have hK : ∀ k, k < m → 0 ≤ K k ∧ K k ≤ 1000 := fun k hk => inB_iff.1 (alW_at q5 hk)
  rw [HV.out true (by rw [hq, decide_eq_true g1, decide_eq_true g2, decide_eq_true (by omega : n ≠ 0), q5]; rfl), if_pos rfl]
  rw [q5] at cA
  have HKb := hide hK
  have HRb := hide hr
  obtain ⟨R, hR⟩ : ∃ R, m % n = R := ⟨_, rfl⟩
  obtain ⟨V, hV⟩ : ∃ V, m / n = V := ⟨_, rfl⟩
  rw [hR] at e1 g1'
  rw [hV] at e2 g2' hle g2 ⊢
  have HVe := hide hV
  have cC := fun w' => chunk_any a m cap n hn0 w'
  clear hq HV hr hK g1 hR hV q5
  refine (callsIn_wide (n := 3)).1 ?_
  refine callsIn_of_wp_marks Try.func38 rfl trivial ?_ rfl
  simp only [Try.ntmps38, List.size_toArray, List.length_cons, List.length_nil, Nat.reduceAdd, Nat.reduceSub, Array.replicate_succ, Array.replicate_zero, List.push_toArray, List.append_toArray, List.nil_append, List.cons_append]
  gi_wp2_with fail
  refine ⟨trivial, (callsIn_wide.2 c0).mono ?_⟩
  rintro e w1 ⟨rfl, rfl⟩
  gi_wp2_with fail
  refine ⟨trivial, (callsIn_wide.2 cA).mono ?_⟩
  rintro e w2 ⟨rfl, rfl⟩
  clear cA c0
  gi_wp2_with fail
  refine ⟨trivial, (callsIn_wide.2 (cC _)).mono ?_⟩
  rintro e w3 ⟨rfl, rfl⟩
  clear cC
  have hdv : decide ((1024 : Int) < (V : Int)) = false := decide_eq_false (by omega)
  gi_wp2_with fail
  try simp only [hdv]
  clear hdv
  obtain ⟨w1, hw1⟩ : ∃ w1, w1 = w.alloc (.cells #[.slice a' n cap'] 24) := ⟨_, rfl⟩
  have hS1 : St w [(w.heap.size, [.slice a' n cap'])] [] w1 := by rw [hw1]; exact (St.start w).box [_] _
  have hz1 : w1.heap.size = w.heap.size + 1 := by rw [hw1]; simp
  rw [← hw1]
  obtain ⟨w3, hw3⟩ : ∃ w3, w3 = ((w1.alloc (.cells #[.slice none 0 0] 24)).alloc (.cells #[.slice a m cap] 24)).alloc (.cells #[.int .i64 n] 3) := ⟨_, rfl⟩
  have hz3 : w3.heap.size = w.heap.size + 4 := by rw [hw3]; simp [hz1]
  have hBx : Boxed w3 (w.heap.size + 1) 24 (.slice none 0 0) := by
    rw [hw3, ← hz1]
    exact ((Boxed.new w1 24 (.slice none 0 0)).alloc _).alloc _
  have hS3 : St w [(w.heap.size + 3, [.int .i64 n]), (w.heap.size + 2, [.slice a m cap]), (w.heap.size + 1, [.slice none 0 0]), (w.heap.size, [.slice a' n cap'])] [] w3 := by
    rw [hw3]
    exact ((hS1.box' [.slice none 0 0] 24 (b := w.heap.size + 1) (by rw [hz1])).box' [.slice a m cap] 24 (b := w.heap.size + 2) (by simp [hz1])).box' [.int .i64 n] 3 (b := w.heap.size + 3) (by simp [hz1])
  have hB13 : Below (w.heap.size + 1) w1 w3 := by
    rw [hw3]
    exact (((Below.refl _ _).alloc (by rw [hz1]; exact Nat.le_refl _) _).alloc (by simp [hz1]) _).alloc (by simp [hz1]) _
  have hrb : w1.cell? ⟨w.heap.size, 0, none⟩ = some (.slice a' n cap') := hS1.cell 0 rfl 0 rfl
  rw [← hw3]
  have hx : ∃ b off, 0 < m → a = some ⟨b, off, none⟩ := by
    by_cases h0 : 0 < m
    · obtain ⟨b, off, ha, -⟩ := HP.out.at h0
      exact ⟨b, off, fun _ => ha⟩
    · exact ⟨0, 0, fun h => absurd h h0⟩
  obtain ⟨b, off, ha⟩ := hx
  have hmV : m = V * n := by
    have h1 := Nat.div_add_mod m n
    rw [HM.out, HVe.out, Nat.add_zero, Nat.mul_comm] at h1
    exact h1.symm
  have HmV := hide hmV
  have hseq := chunk_gw a b off m cap n V (w.heap.size + 2) (w.heap.size + 3) ha hmV hn0 hl hcap hn64 (fun k => k < w3.heap.size ∧ k ≠ w.heap.size + 1) w3 (hS3.cell 1 rfl 0 rfl) (hS3.cell 0 rfl 0 rfl) ⟨by omega, by omega⟩ ⟨by omega, by omega⟩
  clear hmV
  have HP1 := hide (HP.out.below hS1.below)
  have HP1' := hide (HP'.out.below hS1.below)
  have HBw := hide hS1.below
  refine wpIn_givesV (gf := 90) (lb := #[.pointer (some ⟨w.heap.size + 2, 0, none⟩), .pointer (some ⟨w.heap.size + 3, 0, none⟩)]) rfl (fun _ _ => rfl) hseq (fun k hk => hk.1) (Below.refl _ _) rfl
    (fun (pre : List Value) W => ((∃ v, Boxed W (w.heap.size + 1) 24 v ∧ W.ownsRow (w.heap.size + 1) 2 1 v pre.length (ints (fl (dvS K r n) pre.length)) ∧ ∀ q, v.ownBlock = some q → w3.heap.size ≤ q) ∧ Below (w.heap.size + 1) w1 W) ∧ w3.heap.size ≤ W.heap.size)
    (OwnFrom.and (OwnFrom.and (Own.from (holdsRow_own (w.heap.size + 1) (w.heap.size + 1) 24 2 1 (fun (pre : List Value) => pre.length) (fun pre => ints (fl (dvS K r n) pre.length)) (fun _ v => ∀ q, v.ownBlock = some q → w3.heap.size ≤ q)) _) (ownFrom_below (by rw [hz1]; exact Nat.le_refl _) (by omega))) (fun s A B row hs hg _ => Nat.le_trans hs hg.size))
    ⟨⟨⟨_, hBx, World.ownsRow_nil _ _ _ _, fun q hq => by cases hq⟩, hB13⟩, Nat.le_refl _⟩
    (fun x => { tmps := #[.slice a m cap, .slice a' n cap', undef, .pointer (some ⟨w.heap.size, 0, none⟩), .slice none 0 0, .int .i64 n, .pointer (some ⟨w.heap.size + 1, 0, none⟩), x, .slice a' n cap', .int .i64 n, .slice a' n cap', .bool true, .bool false, .bool false, .int .i64 n, .bool false, .bool false, .bool false, .slice a m cap, .int .i64 m, .int .i64 n, .int .i64 R, .bool false, .bool false, .bool false, .slice a m cap, .int .i64 m, .int .i64 n, .int .i64 V, .bool false, .bool false, .bool false, .slice a m cap, .bool true, .bool false, .bool false, .slice a m cap, .int .i64 n, .func (.func 90) #[] #[.pointer (some ⟨w.heap.size + 1 + 1, 0, none⟩), .pointer (some ⟨w.heap.size + 1 + 1 + 1, 0, none⟩)], x, undef, undef, undef, undef, undef, undef, undef], defers := [] }) ?assign ?body ?done
  case assign =>
    intro l x W K hK
    gi_wp2
    exact hK
  case body =>
    rintro l pre x W ⟨⟨⟨v, hv, ho, hvo⟩, hB⟩, hsz⟩ hpre
    obtain ⟨hlt, rfl⟩ := chL_of_prefix hpre
    obtain ⟨k, hk⟩ : ∃ k, pre.length = k := ⟨_, rfl⟩
    rw [hk] at hlt ho ⊢
    have hkn : k * n + n ≤ m := by
      rw [HmV.out]
      have : (k + 1) * n ≤ V * n := Nat.mul_le_mul_right n (by omega)
      have h4 : (k + 1) * n = k * n + n := by rw [Nat.add_mul, Nat.one_mul]
      omega
    obtain rfl := ha (by omega)
    have hBw1 : Below w1.heap.size w1 W := by rw [hz1]; exact hB
    have pK : Px (some ⟨b, off + k * n, none⟩) n (fun q => K (k * n + q)) W := by
      rcases HP1.out.below hBw1 with h0 | ⟨b', off', he, hc⟩
      · omega
      · cases he
        exact .inr ⟨b, off + k * n, rfl, fun q hq => by rw [Nat.add_assoc]; exact hc (k * n + q) (by omega)⟩
    have pR := HP1'.out.below hBw1
    have crow : W.cell? ⟨w.heap.size, 0, none⟩ = some (.slice a' n cap') := (hB.cell (p := ⟨w.heap.size, 0, none⟩) (by show w.heap.size < _; omega)).trans hrb
    have cdose := hv.cell
    have cS := sumOfProducts_any (some ⟨b, off + k * n, none⟩) n n (fun q => K (k * n + q)) hl' a' cap' r (fun q hq => by
      have h1 := HKb.out (k * n + q) (by omega)
      have h2 := HRb.out q hq
      have := dv_prod h1.1 h1.2 h2.1 h2.2
      omega) W.drew pK.drew pR.drew
    have HSv : Hid (dotS (fun q => K (k * n + q)) r n = dvS K r n k) := rfl
    have HO := hide ho
    have HV := hide hv
    have HVo := hide hvo
    have HB := hide hB
    have hk65 : k ≤ 1024 := by omega
    generalize dotS (fun q => K (k * n + q)) r n = S at *
    obtain ⟨ti, hi1, hi2, hi3, hi4⟩ := info2
    have HI1 := hide hi1
    clear pK pR ho hv hvo hB hBw1 hpre hi1 HP HP' HP1 HP1' hseq
    gi_wp2
    have HFin : Hid (∀ {g cp : Nat} {w9 : World} {d : Nat}, Hid (Boxed (w9.setCell ⟨w.heap.size + 1, 0, none⟩ (.slice (some ⟨g, 0, none⟩) (k + 1) cp)) (w.heap.size + 1) 24 (.slice (some ⟨g, 0, none⟩) (k + 1) cp)) →
        Hid ((w9.setCell ⟨w.heap.size + 1, 0, none⟩ (.slice (some ⟨g, 0, none⟩) (k + 1) cp)).ownsRow (w.heap.size + 1) 2 1 (.slice (some ⟨g, 0, none⟩) (k + 1) cp) (k + 1) (ints (fl (dvS K r n) k) ++ [.int .i64 S])) →
        Hid (KeepsOthers (W.drew.drewN d) (w9.setCell ⟨w.heap.size + 1, 0, none⟩ (.slice (some ⟨g, 0, none⟩) (k + 1) cp))) → Hid (Below (w.heap.size + 1) (W.drew.drewN d) (w9.setCell ⟨w.heap.size + 1, 0, none⟩ (.slice (some ⟨g, 0, none⟩) (k + 1) cp))) →
        Hid (((W.drew.drewN d).alloc (.cells #[.int .i64 S] 2)).grownBy w9 v.ownBlock) → Hid (v.ownBlock = some g ∨ g = ((W.drew.drewN d).alloc (.cells #[.int .i64 S] 2)).heap.size) →
        goesOnV (fun k => k < w3.heap.size ∧ k ≠ w.heap.size + 1) ((fun (pre : List Value) W => ((∃ v, Boxed W (w.heap.size + 1) 24 v ∧ W.ownsRow (w.heap.size + 1) 2 1 v pre.length (ints (fl (dvS K r n) pre.length)) ∧ ∀ q, v.ownBlock = some q → w3.heap.size ≤ q) ∧ Below (w.heap.size + 1) w1 W) ∧ w3.heap.size ≤ W.heap.size) (pre ++ [.slice (some ⟨b, off + k * n, none⟩) n n])) W .normal { tmps := #[], defers := [] } (w9.setCell ⟨w.heap.size + 1, 0, none⟩ (.slice (some ⟨g, 0, none⟩) (k + 1) cp))) := by
      intro g cp w9 d b2 b3 b4 b5 o2 o3
      have hsW : (W.drew.drewN d).heap.size = W.heap.size := rfl
      have hs9 := o2.out.size
      rw [World.size_alloc, hsW] at hs9
      have hgw : w3.heap.size ≤ g := by
        rcases o3.out with h | h
        · exact HVo.out g h
        · rw [h, World.size_alloc, hsW]; omega
      refine ⟨⟨?_, fun j hj hjl => ?_⟩, ?_, ⟨⟨_, b2.out, ?_, fun q hq => ?_⟩, ?_⟩, ?_⟩
      · have := b5.out.size; rw [hsW] at this; exact this
      · have h1 := o2.out.block j (by rw [World.size_alloc, hsW]; omega) (fun e => by have := HVo.out j e.symm; omega)
        rw [heap_setCell_other _ _ _ _ (by simpa using hj.2), h1]
        exact (Below.heap_alloc (W.drew.drewN d) _ j hjl)
      · exact (show KeepsOthers W (W.drew.drewN d) from ⟨Nat.le_refl _, fun _ _ h _ => h⟩).trans b4.out
      · rw [List.length_append, List.length_singleton, hk]
        have := b3.out
        rw [HSv.out] at this
        simpa [fl, ints] using this
      · simp [Value.ownBlock] at hq; omega
      · exact (below_drewN HB.out.drew d).trans b5.out
      · have := b5.out.size; rw [hsW] at this; omega
    clear HB HVo
    refine wpIn_region_any (by kernel_rfl) ?_
    change wpAnyIn _ _ _ _ _ _ _ _ _ (World.drew _)
    refine wpAnyIn_ready (rs := [0, 1, 2]) (by kernel_rfl) (by simp) ?_
    refine AllReadyIn.cons rfl (fun K' hK' => ?_) ?_
    · skip
      go_simp
      refine hK' _ _ ?_
      clear hK' K'
      refine wpAnyIn_ready (rs := [1, 2]) (by kernel_rfl) (by simp) ?_
      refine AllReadyIn.cons rfl (fun K' hK' => ?_) ?_
      · skip
        go_simp
        refine hK' _ _ ?_
        clear hK' K'
        refine wpAnyIn_ready (rs := [2]) (by kernel_rfl) (by simp) ?_
        refine AllReadyIn.cons rfl (fun K' hK' => ?_) ?_
        · skip
          go_simp
          refine hK' _ _ ?_
          clear hK' K'
          refine wpAnyIn_ready (rs := [3]) (by kernel_rfl) (by simp) ?_
          refine AllReadyIn.cons rfl (fun K' hK' => ?_) ?_
          · skip
            go_simp
            gi_wp2_with (first | (refine ⟨trivial, ?_⟩; gi_at_call 71; refine (callsIn_wide.2 cS).mono ?_; rintro e U ⟨rfl, d, hU⟩; have HOU : Hid (U.ownsRow (w.heap.size + 1) 2 1 v k (ints (fl (dvS K r n) k))) := (by rw [hU]; exact HO.out); have hvU : Boxed U (w.heap.size + 1) 24 v := (by rw [hU]; exact HV.out); have hzU : w3.heap.size ≤ U.heap.size := (by rw [hU]; exact hsz); have HU := hide hU; clear hU; have cU := hvU.cell; have cUA := (hvU.alloc (.cells #[.int .i64 S] 2)).cell; have HvU := hide hvU; clear hvU) | (gi_at_call 71; refine (callsIn_wide.2 cS).mono ?_; rintro e U ⟨rfl, d, hU⟩; have HOU : Hid (U.ownsRow (w.heap.size + 1) 2 1 v k (ints (fl (dvS K r n) k))) := (by rw [hU]; exact HO.out); have hvU : Boxed U (w.heap.size + 1) 24 v := (by rw [hU]; exact HV.out); have hzU : w3.heap.size ≤ U.heap.size := (by rw [hU]; exact hsz); have HU := hide hU; clear hU; have cU := hvU.cell; have cUA := (hvU.alloc (.cells #[.int .i64 S] 2)).cell; have HvU := hide hvU; clear hvU))
            try (refine hK' _ _ ?_; clear hK' K')
            refine wpAnyIn_ready (rs := [4]) (by kernel_rfl) (by simp) ?_
            refine AllReadyIn.cons rfl (fun K' hK' => ?_) ?_
            · skip
              go_simp
              refine hK' _ _ ?_
              clear hK' K'
              refine wpAnyIn_ready (rs := [5]) (by kernel_rfl) (by simp) ?_
              refine AllReadyIn.cons rfl (fun K' hK' => ?_) ?_
              · skip
                rw [if_pos (by rfl)]
                refine wpIn_append_lies _ _ _ _ rfl (w.heap.size + 1) 2 ti (.int .i64 0) 1 8 Try.underlying24 HI1.out hi2 hi3 hi4 rfl (by decide) v k _ rfl (HOU.out.alloc _) ⟨U.heap.size, 0, none⟩ 1 1 [.int .i64 S] rfl rfl (fun j u hj => by
                  match j, hj with
                  | 0, hj => cases hj; simp [go_sem, Addr.add]
                  | j + 1, hj => simp at hj) (fun u hu => by simp at hu; subst hu; rfl) (by omega) (by unfold maxLen; omega) (by omega) (by simp; omega) _ rfl ?_
                intro g cp w9 o1 o2 o3 o4
                refine hK' _ _ ?_
                clear hK' K'
                obtain ⟨b1, b2, b3, b4, b5⟩ := Boxed.appended (n₀ := w.heap.size + 1) HvU.out (by decide) HOU.out (by omega) (Nat.le_refl _) o1 o2
                have c9 := b1.cell
                have f9 := b1.frozen
                rw [HU.out] at b4 b5 o2 o3
                replace b2 := hide b2
                replace b3 := hide b3
                replace b4 := hide b4
                replace b5 := hide b5
                replace o2 := hide o2
                replace o3 := hide o3
                refine wpAnyIn_ready (rs := [6]) (by kernel_rfl) (by simp) ?_
                refine AllReadyIn.cons rfl (fun K' hK' => ?_) ?_
                · skip
                  go_simp
                  refine hK' _ _ ?_
                  clear hK' K'
                  refine wpAnyIn_done (by kernel_rfl) ?_ _
                  exact HFin.out b2 b3 b4 b5 o2 o3
                exact AllReadyIn.nil
              exact AllReadyIn.nil
            exact AllReadyIn.nil
          exact AllReadyIn.nil
        exact AllReadyIn.nil
      refine AllReadyIn.cons rfl (fun K' hK' => ?_) ?_
      · skip
        go_simp
        refine hK' _ _ ?_
        clear hK' K'
        refine wpAnyIn_ready (rs := [1]) (by kernel_rfl) (by simp) ?_
        refine AllReadyIn.cons rfl (fun K' hK' => ?_) ?_
        · skip
          go_simp
          refine hK' _ _ ?_
          clear hK' K'
          refine wpAnyIn_ready (rs := [3]) (by kernel_rfl) (by simp) ?_
          refine AllReadyIn.cons rfl (fun K' hK' => ?_) ?_
          · skip
            go_simp
            gi_wp2_with (first | (refine ⟨trivial, ?_⟩; gi_at_call 71; refine (callsIn_wide.2 cS).mono ?_; rintro e U ⟨rfl, d, hU⟩; have HOU : Hid (U.ownsRow (w.heap.size + 1) 2 1 v k (ints (fl (dvS K r n) k))) := (by rw [hU]; exact HO.out); have hvU : Boxed U (w.heap.size + 1) 24 v := (by rw [hU]; exact HV.out); have hzU : w3.heap.size ≤ U.heap.size := (by rw [hU]; exact hsz); have HU := hide hU; clear hU; have cU := hvU.cell; have cUA := (hvU.alloc (.cells #[.int .i64 S] 2)).cell; have HvU := hide hvU; clear hvU) | (gi_at_call 71; refine (callsIn_wide.2 cS).mono ?_; rintro e U ⟨rfl, d, hU⟩; have HOU : Hid (U.ownsRow (w.heap.size + 1) 2 1 v k (ints (fl (dvS K r n) k))) := (by rw [hU]; exact HO.out); have hvU : Boxed U (w.heap.size + 1) 24 v := (by rw [hU]; exact HV.out); have hzU : w3.heap.size ≤ U.heap.size := (by rw [hU]; exact hsz); have HU := hide hU; clear hU; have cU := hvU.cell; have cUA := (hvU.alloc (.cells #[.int .i64 S] 2)).cell; have HvU := hide hvU; clear hvU))
            try (refine hK' _ _ ?_; clear hK' K')
            refine wpAnyIn_ready (rs := [4]) (by kernel_rfl) (by simp) ?_
            refine AllReadyIn.cons rfl (fun K' hK' => ?_) ?_
            · skip
              go_simp
              refine hK' _ _ ?_
              clear hK' K'
              refine wpAnyIn_ready (rs := [5]) (by kernel_rfl) (by simp) ?_
              refine AllReadyIn.cons rfl (fun K' hK' => ?_) ?_
              · skip
                rw [if_pos (by rfl)]
                refine wpIn_append_lies _ _ _ _ rfl (w.heap.size + 1) 2 ti (.int .i64 0) 1 8 Try.underlying24 HI1.out hi2 hi3 hi4 rfl (by decide) v k _ rfl (HOU.out.alloc _) ⟨U.heap.size, 0, none⟩ 1 1 [.int .i64 S] rfl rfl (fun j u hj => by
                  match j, hj with
                  | 0, hj => cases hj; simp [go_sem, Addr.add]
                  | j + 1, hj => simp at hj) (fun u hu => by simp at hu; subst hu; rfl) (by omega) (by unfold maxLen; omega) (by omega) (by simp; omega) _ rfl ?_
                intro g cp w9 o1 o2 o3 o4
                refine hK' _ _ ?_
                clear hK' K'
                obtain ⟨b1, b2, b3, b4, b5⟩ := Boxed.appended (n₀ := w.heap.size + 1) HvU.out (by decide) HOU.out (by omega) (Nat.le_refl _) o1 o2
                have c9 := b1.cell
                have f9 := b1.frozen
                rw [HU.out] at b4 b5 o2 o3
                replace b2 := hide b2
                replace b3 := hide b3
                replace b4 := hide b4
                replace b5 := hide b5
                replace o2 := hide o2
                replace o3 := hide o3
                refine wpAnyIn_ready (rs := [6]) (by kernel_rfl) (by simp) ?_
                refine AllReadyIn.cons rfl (fun K' hK' => ?_) ?_
                · skip
                  go_simp
                  refine hK' _ _ ?_
                  clear hK' K'
                  refine wpAnyIn_done (by kernel_rfl) ?_ _
                  exact HFin.out b2 b3 b4 b5 o2 o3
                exact AllReadyIn.nil
              exact AllReadyIn.nil
            exact AllReadyIn.nil
          exact AllReadyIn.nil
        exact AllReadyIn.nil
      exact AllReadyIn.nil
    refine AllReadyIn.cons rfl (fun K' hK' => ?_) ?_
    · skip
      go_simp
      refine hK' _ _ ?_
      clear hK' K'
      refine wpAnyIn_ready (rs := [0, 2]) (by kernel_rfl) (by simp) ?_
      refine AllReadyIn.cons rfl (fun K' hK' => ?_) ?_
      · skip
        go_simp
        refine hK' _ _ ?_
        clear hK' K'
        refine wpAnyIn_ready (rs := [2]) (by kernel_rfl) (by simp) ?_
        refine AllReadyIn.cons rfl (fun K' hK' => ?_) ?_
        · skip
          go_simp
          refine hK' _ _ ?_
          clear hK' K'
          refine wpAnyIn_ready (rs := [3]) (by kernel_rfl) (by simp) ?_
          refine AllReadyIn.cons rfl (fun K' hK' => ?_) ?_
          · skip
            go_simp
            gi_wp2_with (first | (refine ⟨trivial, ?_⟩; gi_at_call 71; refine (callsIn_wide.2 cS).mono ?_; rintro e U ⟨rfl, d, hU⟩; have HOU : Hid (U.ownsRow (w.heap.size + 1) 2 1 v k (ints (fl (dvS K r n) k))) := (by rw [hU]; exact HO.out); have hvU : Boxed U (w.heap.size + 1) 24 v := (by rw [hU]; exact HV.out); have hzU : w3.heap.size ≤ U.heap.size := (by rw [hU]; exact hsz); have HU := hide hU; clear hU; have cU := hvU.cell; have cUA := (hvU.alloc (.cells #[.int .i64 S] 2)).cell; have HvU := hide hvU; clear hvU) | (gi_at_call 71; refine (callsIn_wide.2 cS).mono ?_; rintro e U ⟨rfl, d, hU⟩; have HOU : Hid (U.ownsRow (w.heap.size + 1) 2 1 v k (ints (fl (dvS K r n) k))) := (by rw [hU]; exact HO.out); have hvU : Boxed U (w.heap.size + 1) 24 v := (by rw [hU]; exact HV.out); have hzU : w3.heap.size ≤ U.heap.size := (by rw [hU]; exact hsz); have HU := hide hU; clear hU; have cU := hvU.cell; have cUA := (hvU.alloc (.cells #[.int .i64 S] 2)).cell; have HvU := hide hvU; clear hvU))
            try (refine hK' _ _ ?_; clear hK' K')
            refine wpAnyIn_ready (rs := [4]) (by kernel_rfl) (by simp) ?_
            refine AllReadyIn.cons rfl (fun K' hK' => ?_) ?_
            · skip
              go_simp
              refine hK' _ _ ?_
              clear hK' K'
              refine wpAnyIn_ready (rs := [5]) (by kernel_rfl) (by simp) ?_
              refine AllReadyIn.cons rfl (fun K' hK' => ?_) ?_
              · skip
                rw [if_pos (by rfl)]
                refine wpIn_append_lies _ _ _ _ rfl (w.heap.size + 1) 2 ti (.int .i64 0) 1 8 Try.underlying24 HI1.out hi2 hi3 hi4 rfl (by decide) v k _ rfl (HOU.out.alloc _) ⟨U.heap.size, 0, none⟩ 1 1 [.int .i64 S] rfl rfl (fun j u hj => by
                  match j, hj with
                  | 0, hj => cases hj; simp [go_sem, Addr.add]
                  | j + 1, hj => simp at hj) (fun u hu => by simp at hu; subst hu; rfl) (by omega) (by unfold maxLen; omega) (by omega) (by simp; omega) _ rfl ?_
                intro g cp w9 o1 o2 o3 o4
                refine hK' _ _ ?_
                clear hK' K'
                obtain ⟨b1, b2, b3, b4, b5⟩ := Boxed.appended (n₀ := w.heap.size + 1) HvU.out (by decide) HOU.out (by omega) (Nat.le_refl _) o1 o2
                have c9 := b1.cell
                have f9 := b1.frozen
                rw [HU.out] at b4 b5 o2 o3
                replace b2 := hide b2
                replace b3 := hide b3
                replace b4 := hide b4
                replace b5 := hide b5
                replace o2 := hide o2
                replace o3 := hide o3
                refine wpAnyIn_ready (rs := [6]) (by kernel_rfl) (by simp) ?_
                refine AllReadyIn.cons rfl (fun K' hK' => ?_) ?_
                · skip
                  go_simp
                  refine hK' _ _ ?_
                  clear hK' K'
                  refine wpAnyIn_done (by kernel_rfl) ?_ _
                  exact HFin.out b2 b3 b4 b5 o2 o3
                exact AllReadyIn.nil
              exact AllReadyIn.nil
            exact AllReadyIn.nil
          exact AllReadyIn.nil
        exact AllReadyIn.nil
      refine AllReadyIn.cons rfl (fun K' hK' => ?_) ?_
      · skip
        go_simp
        refine hK' _ _ ?_
        clear hK' K'
        refine wpAnyIn_ready (rs := [0, 3]) (by kernel_rfl) (by simp) ?_
        refine AllReadyIn.cons rfl (fun K' hK' => ?_) ?_
        · skip
          go_simp
          refine hK' _ _ ?_
          clear hK' K'
          refine wpAnyIn_ready (rs := [3]) (by kernel_rfl) (by simp) ?_
          refine AllReadyIn.cons rfl (fun K' hK' => ?_) ?_
          · skip
            go_simp
            gi_wp2_with (first | (refine ⟨trivial, ?_⟩; gi_at_call 71; refine (callsIn_wide.2 cS).mono ?_; rintro e U ⟨rfl, d, hU⟩; have HOU : Hid (U.ownsRow (w.heap.size + 1) 2 1 v k (ints (fl (dvS K r n) k))) := (by rw [hU]; exact HO.out); have hvU : Boxed U (w.heap.size + 1) 24 v := (by rw [hU]; exact HV.out); have hzU : w3.heap.size ≤ U.heap.size := (by rw [hU]; exact hsz); have HU := hide hU; clear hU; have cU := hvU.cell; have cUA := (hvU.alloc (.cells #[.int .i64 S] 2)).cell; have HvU := hide hvU; clear hvU) | (gi_at_call 71; refine (callsIn_wide.2 cS).mono ?_; rintro e U ⟨rfl, d, hU⟩; have HOU : Hid (U.ownsRow (w.heap.size + 1) 2 1 v k (ints (fl (dvS K r n) k))) := (by rw [hU]; exact HO.out); have hvU : Boxed U (w.heap.size + 1) 24 v := (by rw [hU]; exact HV.out); have hzU : w3.heap.size ≤ U.heap.size := (by rw [hU]; exact hsz); have HU := hide hU; clear hU; have cU := hvU.cell; have cUA := (hvU.alloc (.cells #[.int .i64 S] 2)).cell; have HvU := hide hvU; clear hvU))
            try (refine hK' _ _ ?_; clear hK' K')
            refine wpAnyIn_ready (rs := [4]) (by kernel_rfl) (by simp) ?_
            refine AllReadyIn.cons rfl (fun K' hK' => ?_) ?_
            · skip
              go_simp
              refine hK' _ _ ?_
              clear hK' K'
              refine wpAnyIn_ready (rs := [5]) (by kernel_rfl) (by simp) ?_
              refine AllReadyIn.cons rfl (fun K' hK' => ?_) ?_
              · skip
                rw [if_pos (by rfl)]
                refine wpIn_append_lies _ _ _ _ rfl (w.heap.size + 1) 2 ti (.int .i64 0) 1 8 Try.underlying24 HI1.out hi2 hi3 hi4 rfl (by decide) v k _ rfl (HOU.out.alloc _) ⟨U.heap.size, 0, none⟩ 1 1 [.int .i64 S] rfl rfl (fun j u hj => by
                  match j, hj with
                  | 0, hj => cases hj; simp [go_sem, Addr.add]
                  | j + 1, hj => simp at hj) (fun u hu => by simp at hu; subst hu; rfl) (by omega) (by unfold maxLen; omega) (by omega) (by simp; omega) _ rfl ?_
                intro g cp w9 o1 o2 o3 o4
                refine hK' _ _ ?_
                clear hK' K'
                obtain ⟨b1, b2, b3, b4, b5⟩ := Boxed.appended (n₀ := w.heap.size + 1) HvU.out (by decide) HOU.out (by omega) (Nat.le_refl _) o1 o2
                have c9 := b1.cell
                have f9 := b1.frozen
                rw [HU.out] at b4 b5 o2 o3
                replace b2 := hide b2
                replace b3 := hide b3
                replace b4 := hide b4
                replace b5 := hide b5
                replace o2 := hide o2
                replace o3 := hide o3
                refine wpAnyIn_ready (rs := [6]) (by kernel_rfl) (by simp) ?_
                refine AllReadyIn.cons rfl (fun K' hK' => ?_) ?_
                · skip
                  go_simp
                  refine hK' _ _ ?_
                  clear hK' K'
                  refine wpAnyIn_done (by kernel_rfl) ?_ _
                  exact HFin.out b2 b3 b4 b5 o2 o3
                exact AllReadyIn.nil
              exact AllReadyIn.nil
            exact AllReadyIn.nil
          exact AllReadyIn.nil
        refine AllReadyIn.cons rfl (fun K' hK' => ?_) ?_
        · skip
          go_simp
          gi_wp2_with (first | (refine ⟨trivial, ?_⟩; gi_at_call 71; refine (callsIn_wide.2 cS).mono ?_; rintro e U ⟨rfl, d, hU⟩; have HOU : Hid (U.ownsRow (w.heap.size + 1) 2 1 v k (ints (fl (dvS K r n) k))) := (by rw [hU]; exact HO.out); have hvU : Boxed U (w.heap.size + 1) 24 v := (by rw [hU]; exact HV.out); have hzU : w3.heap.size ≤ U.heap.size := (by rw [hU]; exact hsz); have HU := hide hU; clear hU; have cU := hvU.cell; have cUA := (hvU.alloc (.cells #[.int .i64 S] 2)).cell; have HvU := hide hvU; clear hvU) | (gi_at_call 71; refine (callsIn_wide.2 cS).mono ?_; rintro e U ⟨rfl, d, hU⟩; have HOU : Hid (U.ownsRow (w.heap.size + 1) 2 1 v k (ints (fl (dvS K r n) k))) := (by rw [hU]; exact HO.out); have hvU : Boxed U (w.heap.size + 1) 24 v := (by rw [hU]; exact HV.out); have hzU : w3.heap.size ≤ U.heap.size := (by rw [hU]; exact hsz); have HU := hide hU; clear hU; have cU := hvU.cell; have cUA := (hvU.alloc (.cells #[.int .i64 S] 2)).cell; have HvU := hide hvU; clear hvU))
          try (refine hK' _ _ ?_; clear hK' K')
          refine wpAnyIn_ready (rs := [0, 4]) (by kernel_rfl) (by simp) ?_
          refine AllReadyIn.cons rfl (fun K' hK' => ?_) ?_
          · skip
            go_simp
            refine hK' _ _ ?_
            clear hK' K'
            refine wpAnyIn_ready (rs := [4]) (by kernel_rfl) (by simp) ?_
            refine AllReadyIn.cons rfl (fun K' hK' => ?_) ?_
            · skip
              go_simp
              refine hK' _ _ ?_
              clear hK' K'
              refine wpAnyIn_ready (rs := [5]) (by kernel_rfl) (by simp) ?_
              refine AllReadyIn.cons rfl (fun K' hK' => ?_) ?_
              · skip
                rw [if_pos (by rfl)]
                refine wpIn_append_lies _ _ _ _ rfl (w.heap.size + 1) 2 ti (.int .i64 0) 1 8 Try.underlying24 HI1.out hi2 hi3 hi4 rfl (by decide) v k _ rfl (HOU.out.alloc _) ⟨U.heap.size, 0, none⟩ 1 1 [.int .i64 S] rfl rfl (fun j u hj => by
                  match j, hj with
                  | 0, hj => cases hj; simp [go_sem, Addr.add]
                  | j + 1, hj => simp at hj) (fun u hu => by simp at hu; subst hu; rfl) (by omega) (by unfold maxLen; omega) (by omega) (by simp; omega) _ rfl ?_
                intro g cp w9 o1 o2 o3 o4
                refine hK' _ _ ?_
                clear hK' K'
                obtain ⟨b1, b2, b3, b4, b5⟩ := Boxed.appended (n₀ := w.heap.size + 1) HvU.out (by decide) HOU.out (by omega) (Nat.le_refl _) o1 o2
                have c9 := b1.cell
                have f9 := b1.frozen
                rw [HU.out] at b4 b5 o2 o3
                replace b2 := hide b2
                replace b3 := hide b3
                replace b4 := hide b4
                replace b5 := hide b5
                replace o2 := hide o2
                replace o3 := hide o3
                refine wpAnyIn_ready (rs := [6]) (by kernel_rfl) (by simp) ?_
                refine AllReadyIn.cons rfl (fun K' hK' => ?_) ?_
                · skip
                  go_simp
                  refine hK' _ _ ?_
                  clear hK' K'
                  refine wpAnyIn_done (by kernel_rfl) ?_ _
                  exact HFin.out b2 b3 b4 b5 o2 o3
                exact AllReadyIn.nil
              exact AllReadyIn.nil
            exact AllReadyIn.nil
          refine AllReadyIn.cons rfl (fun K' hK' => ?_) ?_
          · skip
            go_simp
            refine hK' _ _ ?_
            clear hK' K'
            refine wpAnyIn_ready (rs := [0]) (by kernel_rfl) (by simp) ?_
            refine AllReadyIn.cons rfl (fun K' hK' => ?_) ?_
            · skip
              go_simp
              refine hK' _ _ ?_
              clear hK' K'
              refine wpAnyIn_ready (rs := [5]) (by kernel_rfl) (by simp) ?_
              refine AllReadyIn.cons rfl (fun K' hK' => ?_) ?_
              · skip
                rw [if_pos (by rfl)]
                refine wpIn_append_lies _ _ _ _ rfl (w.heap.size + 1) 2 ti (.int .i64 0) 1 8 Try.underlying24 HI1.out hi2 hi3 hi4 rfl (by decide) v k _ rfl (HOU.out.alloc _) ⟨U.heap.size, 0, none⟩ 1 1 [.int .i64 S] rfl rfl (fun j u hj => by
                  match j, hj with
                  | 0, hj => cases hj; simp [go_sem, Addr.add]
                  | j + 1, hj => simp at hj) (fun u hu => by simp at hu; subst hu; rfl) (by omega) (by unfold maxLen; omega) (by omega) (by simp; omega) _ rfl ?_
                intro g cp w9 o1 o2 o3 o4
                refine hK' _ _ ?_
                clear hK' K'
                obtain ⟨b1, b2, b3, b4, b5⟩ := Boxed.appended (n₀ := w.heap.size + 1) HvU.out (by decide) HOU.out (by omega) (Nat.le_refl _) o1 o2
                have c9 := b1.cell
                have f9 := b1.frozen
                rw [HU.out] at b4 b5 o2 o3
                replace b2 := hide b2
                replace b3 := hide b3
                replace b4 := hide b4
                replace b5 := hide b5
                replace o2 := hide o2
                replace o3 := hide o3
                refine wpAnyIn_ready (rs := [6]) (by kernel_rfl) (by simp) ?_
                refine AllReadyIn.cons rfl (fun K' hK' => ?_) ?_
                · skip
                  go_simp
                  refine hK' _ _ ?_
                  clear hK' K'
                  refine wpAnyIn_done (by kernel_rfl) ?_ _
                  exact HFin.out b2 b3 b4 b5 o2 o3
                exact AllReadyIn.nil
              exact AllReadyIn.nil
            exact AllReadyIn.nil
          exact AllReadyIn.nil
        exact AllReadyIn.nil
      exact AllReadyIn.nil
    refine AllReadyIn.cons rfl (fun K' hK' => ?_) ?_
    · skip
      go_simp
      refine hK' _ _ ?_
      clear hK' K'
      refine wpAnyIn_ready (rs := [0, 1]) (by kernel_rfl) (by simp) ?_
      refine AllReadyIn.cons rfl (fun K' hK' => ?_) ?_
      · skip
        go_simp
        refine hK' _ _ ?_
        clear hK' K'
        refine wpAnyIn_ready (rs := [1]) (by kernel_rfl) (by simp) ?_
        refine AllReadyIn.cons rfl (fun K' hK' => ?_) ?_
        · skip
          go_simp
          refine hK' _ _ ?_
          clear hK' K'
          refine wpAnyIn_ready (rs := [3]) (by kernel_rfl) (by simp) ?_
          refine AllReadyIn.cons rfl (fun K' hK' => ?_) ?_
          · skip
            go_simp
            gi_wp2_with (first | (refine ⟨trivial, ?_⟩; gi_at_call 71; refine (callsIn_wide.2 cS).mono ?_; rintro e U ⟨rfl, d, hU⟩; have HOU : Hid (U.ownsRow (w.heap.size + 1) 2 1 v k (ints (fl (dvS K r n) k))) := (by rw [hU]; exact HO.out); have hvU : Boxed U (w.heap.size + 1) 24 v := (by rw [hU]; exact HV.out); have hzU : w3.heap.size ≤ U.heap.size := (by rw [hU]; exact hsz); have HU := hide hU; clear hU; have cU := hvU.cell; have cUA := (hvU.alloc (.cells #[.int .i64 S] 2)).cell; have HvU := hide hvU; clear hvU) | (gi_at_call 71; refine (callsIn_wide.2 cS).mono ?_; rintro e U ⟨rfl, d, hU⟩; have HOU : Hid (U.ownsRow (w.heap.size + 1) 2 1 v k (ints (fl (dvS K r n) k))) := (by rw [hU]; exact HO.out); have hvU : Boxed U (w.heap.size + 1) 24 v := (by rw [hU]; exact HV.out); have hzU : w3.heap.size ≤ U.heap.size := (by rw [hU]; exact hsz); have HU := hide hU; clear hU; have cU := hvU.cell; have cUA := (hvU.alloc (.cells #[.int .i64 S] 2)).cell; have HvU := hide hvU; clear hvU))
            try (refine hK' _ _ ?_; clear hK' K')
            refine wpAnyIn_ready (rs := [4]) (by kernel_rfl) (by simp) ?_
            refine AllReadyIn.cons rfl (fun K' hK' => ?_) ?_
            · skip
              go_simp
              refine hK' _ _ ?_
              clear hK' K'
              refine wpAnyIn_ready (rs := [5]) (by kernel_rfl) (by simp) ?_
              refine AllReadyIn.cons rfl (fun K' hK' => ?_) ?_
              · skip
                rw [if_pos (by rfl)]
                refine wpIn_append_lies _ _ _ _ rfl (w.heap.size + 1) 2 ti (.int .i64 0) 1 8 Try.underlying24 HI1.out hi2 hi3 hi4 rfl (by decide) v k _ rfl (HOU.out.alloc _) ⟨U.heap.size, 0, none⟩ 1 1 [.int .i64 S] rfl rfl (fun j u hj => by
                  match j, hj with
                  | 0, hj => cases hj; simp [go_sem, Addr.add]
                  | j + 1, hj => simp at hj) (fun u hu => by simp at hu; subst hu; rfl) (by omega) (by unfold maxLen; omega) (by omega) (by simp; omega) _ rfl ?_
                intro g cp w9 o1 o2 o3 o4
                refine hK' _ _ ?_
                clear hK' K'
                obtain ⟨b1, b2, b3, b4, b5⟩ := Boxed.appended (n₀ := w.heap.size + 1) HvU.out (by decide) HOU.out (by omega) (Nat.le_refl _) o1 o2
                have c9 := b1.cell
                have f9 := b1.frozen
                rw [HU.out] at b4 b5 o2 o3
                replace b2 := hide b2
                replace b3 := hide b3
                replace b4 := hide b4
                replace b5 := hide b5
                replace o2 := hide o2
                replace o3 := hide o3
                refine wpAnyIn_ready (rs := [6]) (by kernel_rfl) (by simp) ?_
                refine AllReadyIn.cons rfl (fun K' hK' => ?_) ?_
                · skip
                  go_simp
                  refine hK' _ _ ?_
                  clear hK' K'
                  refine wpAnyIn_done (by kernel_rfl) ?_ _
                  exact HFin.out b2 b3 b4 b5 o2 o3
                exact AllReadyIn.nil
              exact AllReadyIn.nil
            exact AllReadyIn.nil
          exact AllReadyIn.nil
        exact AllReadyIn.nil
      refine AllReadyIn.cons rfl (fun K' hK' => ?_) ?_
      · skip
        go_simp
        refine hK' _ _ ?_
        clear hK' K'
        refine wpAnyIn_ready (rs := [0, 3]) (by kernel_rfl) (by simp) ?_
        refine AllReadyIn.cons rfl (fun K' hK' => ?_) ?_
        · skip
          go_simp
          refine hK' _ _ ?_
          clear hK' K'
          refine wpAnyIn_ready (rs := [3]) (by kernel_rfl) (by simp) ?_
          refine AllReadyIn.cons rfl (fun K' hK' => ?_) ?_
          · skip
            go_simp
            gi_wp2_with (first | (refine ⟨trivial, ?_⟩; gi_at_call 71; refine (callsIn_wide.2 cS).mono ?_; rintro e U ⟨rfl, d, hU⟩; have HOU : Hid (U.ownsRow (w.heap.size + 1) 2 1 v k (ints (fl (dvS K r n) k))) := (by rw [hU]; exact HO.out); have hvU : Boxed U (w.heap.size + 1) 24 v := (by rw [hU]; exact HV.out); have hzU : w3.heap.size ≤ U.heap.size := (by rw [hU]; exact hsz); have HU := hide hU; clear hU; have cU := hvU.cell; have cUA := (hvU.alloc (.cells #[.int .i64 S] 2)).cell; have HvU := hide hvU; clear hvU) | (gi_at_call 71; refine (callsIn_wide.2 cS).mono ?_; rintro e U ⟨rfl, d, hU⟩; have HOU : Hid (U.ownsRow (w.heap.size + 1) 2 1 v k (ints (fl (dvS K r n) k))) := (by rw [hU]; exact HO.out); have hvU : Boxed U (w.heap.size + 1) 24 v := (by rw [hU]; exact HV.out); have hzU : w3.heap.size ≤ U.heap.size := (by rw [hU]; exact hsz); have HU := hide hU; clear hU; have cU := hvU.cell; have cUA := (hvU.alloc (.cells #[.int .i64 S] 2)).cell; have HvU := hide hvU; clear hvU))
            try (refine hK' _ _ ?_; clear hK' K')
            refine wpAnyIn_ready (rs := [4]) (by kernel_rfl) (by simp) ?_
            refine AllReadyIn.cons rfl (fun K' hK' => ?_) ?_
            · skip
              go_simp
              refine hK' _ _ ?_
              clear hK' K'
              refine wpAnyIn_ready (rs := [5]) (by kernel_rfl) (by simp) ?_
              refine AllReadyIn.cons rfl (fun K' hK' => ?_) ?_
              · skip
                rw [if_pos (by rfl)]
                refine wpIn_append_lies _ _ _ _ rfl (w.heap.size + 1) 2 ti (.int .i64 0) 1 8 Try.underlying24 HI1.out hi2 hi3 hi4 rfl (by decide) v k _ rfl (HOU.out.alloc _) ⟨U.heap.size, 0, none⟩ 1 1 [.int .i64 S] rfl rfl (fun j u hj => by
                  match j, hj with
                  | 0, hj => cases hj; simp [go_sem, Addr.add]
                  | j + 1, hj => simp at hj) (fun u hu => by simp at hu; subst hu; rfl) (by omega) (by unfold maxLen; omega) (by omega) (by simp; omega) _ rfl ?_
                intro g cp w9 o1 o2 o3 o4
                refine hK' _ _ ?_
                clear hK' K'
                obtain ⟨b1, b2, b3, b4, b5⟩ := Boxed.appended (n₀ := w.heap.size + 1) HvU.out (by decide) HOU.out (by omega) (Nat.le_refl _) o1 o2
                have c9 := b1.cell
                have f9 := b1.frozen
                rw [HU.out] at b4 b5 o2 o3
                replace b2 := hide b2
                replace b3 := hide b3
                replace b4 := hide b4
                replace b5 := hide b5
                replace o2 := hide o2
                replace o3 := hide o3
                refine wpAnyIn_ready (rs := [6]) (by kernel_rfl) (by simp) ?_
                refine AllReadyIn.cons rfl (fun K' hK' => ?_) ?_
                · skip
                  go_simp
                  refine hK' _ _ ?_
                  clear hK' K'
                  refine wpAnyIn_done (by kernel_rfl) ?_ _
                  exact HFin.out b2 b3 b4 b5 o2 o3
                exact AllReadyIn.nil
              exact AllReadyIn.nil
            exact AllReadyIn.nil
          exact AllReadyIn.nil
        refine AllReadyIn.cons rfl (fun K' hK' => ?_) ?_
        · skip
          go_simp
          gi_wp2_with (first | (refine ⟨trivial, ?_⟩; gi_at_call 71; refine (callsIn_wide.2 cS).mono ?_; rintro e U ⟨rfl, d, hU⟩; have HOU : Hid (U.ownsRow (w.heap.size + 1) 2 1 v k (ints (fl (dvS K r n) k))) := (by rw [hU]; exact HO.out); have hvU : Boxed U (w.heap.size + 1) 24 v := (by rw [hU]; exact HV.out); have hzU : w3.heap.size ≤ U.heap.size := (by rw [hU]; exact hsz); have HU := hide hU; clear hU; have cU := hvU.cell; have cUA := (hvU.alloc (.cells #[.int .i64 S] 2)).cell; have HvU := hide hvU; clear hvU) | (gi_at_call 71; refine (callsIn_wide.2 cS).mono ?_; rintro e U ⟨rfl, d, hU⟩; have HOU : Hid (U.ownsRow (w.heap.size + 1) 2 1 v k (ints (fl (dvS K r n) k))) := (by rw [hU]; exact HO.out); have hvU : Boxed U (w.heap.size + 1) 24 v := (by rw [hU]; exact HV.out); have hzU : w3.heap.size ≤ U.heap.size := (by rw [hU]; exact hsz); have HU := hide hU; clear hU; have cU := hvU.cell; have cUA := (hvU.alloc (.cells #[.int .i64 S] 2)).cell; have HvU := hide hvU; clear hvU))
          try (refine hK' _ _ ?_; clear hK' K')
          refine wpAnyIn_ready (rs := [0, 4]) (by kernel_rfl) (by simp) ?_
          refine AllReadyIn.cons rfl (fun K' hK' => ?_) ?_
          · skip
            go_simp
            refine hK' _ _ ?_
            clear hK' K'
            refine wpAnyIn_ready (rs := [4]) (by kernel_rfl) (by simp) ?_
            refine AllReadyIn.cons rfl (fun K' hK' => ?_) ?_
            · skip
              go_simp
              refine hK' _ _ ?_
              clear hK' K'
              refine wpAnyIn_ready (rs := [5]) (by kernel_rfl) (by simp) ?_
              refine AllReadyIn.cons rfl (fun K' hK' => ?_) ?_
              · skip
                rw [if_pos (by rfl)]
                refine wpIn_append_lies _ _ _ _ rfl (w.heap.size + 1) 2 ti (.int .i64 0) 1 8 Try.underlying24 HI1.out hi2 hi3 hi4 rfl (by decide) v k _ rfl (HOU.out.alloc _) ⟨U.heap.size, 0, none⟩ 1 1 [.int .i64 S] rfl rfl (fun j u hj => by
                  match j, hj with
                  | 0, hj => cases hj; simp [go_sem, Addr.add]
                  | j + 1, hj => simp at hj) (fun u hu => by simp at hu; subst hu; rfl) (by omega) (by unfold maxLen; omega) (by omega) (by simp; omega) _ rfl ?_
                intro g cp w9 o1 o2 o3 o4
                refine hK' _ _ ?_
                clear hK' K'
                obtain ⟨b1, b2, b3, b4, b5⟩ := Boxed.appended (n₀ := w.heap.size + 1) HvU.out (by decide) HOU.out (by omega) (Nat.le_refl _) o1 o2
                have c9 := b1.cell
                have f9 := b1.frozen
                rw [HU.out] at b4 b5 o2 o3
                replace b2 := hide b2
                replace b3 := hide b3
                replace b4 := hide b4
                replace b5 := hide b5
                replace o2 := hide o2
                replace o3 := hide o3
                refine wpAnyIn_ready (rs := [6]) (by kernel_rfl) (by simp) ?_
                refine AllReadyIn.cons rfl (fun K' hK' => ?_) ?_
                · skip
                  go_simp
                  refine hK' _ _ ?_
                  clear hK' K'
                  refine wpAnyIn_done (by kernel_rfl) ?_ _
                  exact HFin.out b2 b3 b4 b5 o2 o3
                exact AllReadyIn.nil
              exact AllReadyIn.nil
            exact AllReadyIn.nil
          refine AllReadyIn.cons rfl (fun K' hK' => ?_) ?_
          · skip
            go_simp
            refine hK' _ _ ?_
            clear hK' K'
            refine wpAnyIn_ready (rs := [0]) (by kernel_rfl) (by simp) ?_
            refine AllReadyIn.cons rfl (fun K' hK' => ?_) ?_
            · skip
              go_simp
              refine hK' _ _ ?_
              clear hK' K'
              refine wpAnyIn_ready (rs := [5]) (by kernel_rfl) (by simp) ?_
              refine AllReadyIn.cons rfl (fun K' hK' => ?_) ?_
              · skip
                rw [if_pos (by rfl)]
                refine wpIn_append_lies _ _ _ _ rfl (w.heap.size + 1) 2 ti (.int .i64 0) 1 8 Try.underlying24 HI1.out hi2 hi3 hi4 rfl (by decide) v k _ rfl (HOU.out.alloc _) ⟨U.heap.size, 0, none⟩ 1 1 [.int .i64 S] rfl rfl (fun j u hj => by
                  match j, hj with
                  | 0, hj => cases hj; simp [go_sem, Addr.add]
                  | j + 1, hj => simp at hj) (fun u hu => by simp at hu; subst hu; rfl) (by omega) (by unfold maxLen; omega) (by omega) (by simp; omega) _ rfl ?_
                intro g cp w9 o1 o2 o3 o4
                refine hK' _ _ ?_
                clear hK' K'
                obtain ⟨b1, b2, b3, b4, b5⟩ := Boxed.appended (n₀ := w.heap.size + 1) HvU.out (by decide) HOU.out (by omega) (Nat.le_refl _) o1 o2
                have c9 := b1.cell
                have f9 := b1.frozen
                rw [HU.out] at b4 b5 o2 o3
                replace b2 := hide b2
                replace b3 := hide b3
                replace b4 := hide b4
                replace b5 := hide b5
                replace o2 := hide o2
                replace o3 := hide o3
                refine wpAnyIn_ready (rs := [6]) (by kernel_rfl) (by simp) ?_
                refine AllReadyIn.cons rfl (fun K' hK' => ?_) ?_
                · skip
                  go_simp
                  refine hK' _ _ ?_
                  clear hK' K'
                  refine wpAnyIn_done (by kernel_rfl) ?_ _
                  exact HFin.out b2 b3 b4 b5 o2 o3
                exact AllReadyIn.nil
              exact AllReadyIn.nil
            exact AllReadyIn.nil
          exact AllReadyIn.nil
        exact AllReadyIn.nil
      exact AllReadyIn.nil
    exact AllReadyIn.nil
  case done =>
    rintro D W hD ⟨⟨⟨v, hv, ho, hvo⟩, hB⟩, hsz⟩ hK
    rw [chL_len] at ho
    have cb := hv.cell
    have hBD : Below w.heap.size W (W.putObj D (.deferred none)) := belowK_b (w := w) (Nat.le_refl _) W D _ _ (by omega) hK rfl rfl
    have h5 : LsR V (fun q => (fl (dvS K r n) V).getD q 0) w (.returned v) (W.putObj D (.deferred none)) := LsR.ofL ((ownsRow_putObj ho _ hK rfl).mono (by omega)) ((hS1.below.trans (hB.mono (by omega))).trans hBD)
    obtain ⟨a9, c9, b9, h6, h7, h8, h9⟩ := h5
    have h10 : LsR V (dvS K r n) w (.returned v) (W.putObj D (.deferred none)) := by
      refine ⟨a9, c9, b9, h6, ?_, h8, h9⟩
      rcases h7 with h7 | ⟨h7, h11⟩
      · exact .inl h7
      · exact .inr ⟨h7, Row.congr h11 fun q hq => fl_at _ _ _ hq⟩
    have HL := hide h10
    clear h6 h7 h8 h9 h10 hBD hseq ho hv
    gi_wp2
    refine ⟨by simp, .inl ⟨_, _, rfl, run_takeDeferred hK, ?_⟩⟩
    refine ⟨_, results_tmp rfl _ _ _, ?_⟩
    first | exact HL.out | simpa using HL.out | (simp only [go_sem]; exact HL.out) | (simp [go_sem]; exact HL.out)

end Go.Proofs.Ytocmbdckjdggiaa
