/- Lists of joint counts that the call grows and writes; like pairs gathered. -/
import Derived.Test.YtfpcenaaenondaaJci
import Derived.Test.YtfpcenaaenondaaGro
import Derived.Test.YtfpcenaaenondaaQup
import Derived.BigRegion
namespace Go.Proofs.Ytfpcenaaenondaa
open Go.RowKit

/-- a cell of a list of the call's own is written -/
theorem own_setI {w : World} {B n b cap m : Nat} {e : TypeId} {X : List Int} (h : w.ownsRow B e m (.slice (some ⟨b, 0, none⟩) n cap) n (ints X)) (k : Nat) (z : Int) :
    (w.setCell ⟨b, k, none⟩ (.int .i64 z)).ownsRow B e m (.slice (some ⟨b, 0, none⟩) n cap) n (ints (X.set k z)) := by
  obtain ⟨h1, h2⟩ := h
  refine ⟨by rw [ints_length] at h1 ⊢; simpa using h1, ?_⟩
  rcases h2 with ⟨hv, _⟩ | ⟨b', cap', cur, hv, hB, hh, hn, hc, hs, ht⟩
  · cases hv
  · cases hv
    refine .inr ⟨b, cap, cur.setIfInBounds k (.int .i64 z), rfl, hB, ?_, hn, hc, by rw [Array.size_setIfInBounds]; exact hs, ?_⟩
    · rw [heap_setCell_same w b k cur e _ hh]
    · rw [Array.toList_setIfInBounds, List.take_set, ht]
      unfold ints
      rw [List.map_set]
/-- where a list of the call's own lies -/
theorem own_sl {w : World} {B n m : Nat} {e : TypeId} {v : Value} {L : List Int} (h : w.ownsRow B e m v n (ints L)) :
    ∃ a cap, v = .slice a n cap ∧ (0 < n → ∃ b, a = some ⟨b, 0, none⟩ ∧ B ≤ b ∧ b < w.heap.size ∧ ∀ k, k < n * m → w.cell? ⟨b, k, none⟩ = some (.int .i64 (L.getD k 0)) ∧ w.frozen? ⟨b, k, none⟩ = false) := by
  have h' := h
  rcases h'.2 with ⟨hv, hn⟩ | ⟨b, cap, cur, hv, hB, hh, hn, hc, hs, ht⟩
  · exact ⟨none, 0, by rw [hv, hn], fun h0 => by omega⟩
  · refine ⟨some ⟨b, 0, none⟩, cap, hv, fun h0 => ⟨b, rfl, hB, (Array.getElem?_eq_some_iff.1 hh).1, fun k hk => ?_⟩⟩
    rw [hv] at h
    refine ⟨?_, h.frozenAt k⟩
    have hl := h.1
    rw [ints_length] at hl
    rw [h.cellAt k hk]
    exact ints_at L k (by omega)

set_option maxRecDepth 100000 in
theorem infoJ : ∃ i, Try.prog.info? 38 = some i ∧ i.zero = some (vJoint 0 0 0) ∧ i.size = 3 ∧ i.bytes = 24 := ⟨_, rfl, rfl, rfl, rfl⟩
/-- a counted pair is appended to a list of the call's own -/
theorem growJ (w : World) {ops : Array Oper} {rest : List Oper} {o : Oper} {a : Act} {Q : Exit → Act → World → Prop} (hgd : o.guard = none) (s x : Operand)
    (ho : o.op = .call { callee := .builtin .append, args := #[s, x], argTypes := #[26, 26] }) (B : Nat) (v : Value) (L : List J3) (hs : a.eval s = v) (w0 : World) (hown : w.ownsRow B 38 3 v L.length (ints (jl L)))
    (hb : Below B w0 w) (hB : B ≤ w.heap.size) (x0 x1 x2 : Int) (hx : a.eval x = .slice (some ⟨w.heap.size, 0, none⟩) 1 1) (hn : L.length ≤ 1048576)
    (h : ∀ v' w', w'.ownsRow B 38 3 v' (L ++ [(x0, x1, x2)]).length (ints (jl (L ++ [(x0, x1, x2)]))) → Below B w0 w' → w.heap.size < w'.heap.size → wpList Try.prog ops Q rest (a.put o.dst v') w') :
    wpList Try.prog ops Q (o :: rest) a (w.alloc (.cells #[.int .i64 x0, .int .i64 x1, .int .i64 x2] 38)) := by
  obtain ⟨ti, hi1, hi2, hi3, hi4⟩ := infoJ
  refine grow w hgd s x 26 ho B 38 ti (vJoint 0 0 0) 3 24 Try.underlying26 hi1 hi2 hi3 hi4 rfl (by omega) v L.length (jl L) hs w0 hown hb hB [x0, x1, x2] 1 1 hx rfl (by unfold maxLen; omega) (by omega) ?_
  intro v' w' g1 g2 g3
  refine h v' w' ?_ g2 g3
  rw [jl_app]
  have e : (L ++ [(x0, x1, x2)]).length = L.length + 1 := by simp
  rw [e]
  exact g1
theorem jl_get {L : List J3} {k : Nat} {x : J3} (h : L[k]? = some x) : (jl L).getD (k * 3) 0 = x.1 ∧ (jl L).getD (k * 3 + 1) 0 = x.2.1 ∧ (jl L).getD (k * 3 + 2) 0 = x.2.2 := by
  obtain ⟨h0, h1, h2⟩ := jl_at h
  simp only [List.getD, h0, h1, h2]
  exact ⟨rfl, rfl, rfl⟩

/-- pairs stand in memory, each counted once -/
def PxJ (g : Nat) (P : List (Int × Int)) (w : World) : Prop := ∀ k p, P[k]? = some p → w.cell? ⟨g, k * 3, none⟩ = some (.int .i64 p.1) ∧ w.cell? ⟨g, k * 3 + 1, none⟩ = some (.int .i64 p.2) ∧ w.cell? ⟨g, k * 3 + 2, none⟩ = some (.int .i64 1)
theorem PxJ.below {g : Nat} {P : List (Int × Int)} {w w' : World} (h : PxJ g P w) (hb : Below w.heap.size w w') : PxJ g P w' := fun k p hp => by
  obtain ⟨h0, h1, h2⟩ := h k p hp
  exact ⟨(hb.cell (p := ⟨g, k * 3, none⟩) (World.block_lt_of_cell? w _ h0)).trans h0, (hb.cell (p := ⟨g, k * 3 + 1, none⟩) (World.block_lt_of_cell? w _ h1)).trans h1, (hb.cell (p := ⟨g, k * 3 + 2, none⟩) (World.block_lt_of_cell? w _ h2)).trans h2⟩
/-- a list of joint counts is answered -/
def JnR (L : List J3) (w : World) (e : Ending) (w' : World) : Prop := ∃ v, e = .returned v ∧ w'.ownsRow w.heap.size 38 3 v L.length (ints (jl L)) ∧ Below w.heap.size w w'

theorem ownsRow_up {w w' : World} {B n m : Nat} {e : TypeId} {v : Value} {xs : List Value} (h : w.ownsRow B e m v n xs) (hb : Below w.heap.size w w') : w'.ownsRow B e m v n xs := ownsRow_below' h hb

theorem comparePairs_b (a b c a' b' c' : Int) (W : World) :
    Calls Try.prog 19 #[vJoint a b c, vJoint a' b' c'] W fun e w' => e = .returned (.int .i64 (cfJ (a, b) (a', b'))) ∧ Below W.heap.size W w' :=
  (comparePairs_gn a b c a' b' c' W).mono fun _ _ h => ⟨h.1, h.2.below⟩

set_option maxRecDepth 100000 in
set_option maxHeartbeats 4000000 in
theorem gathered_any (g cap : Nat) (P : List (Int × Int)) (hs : P.Pairwise leP) (hP : P.length ≤ 4096) (w : World) (h : PxJ g P w) :
    Calls Try.prog 20 #[.slice (some ⟨g, 0, none⟩) P.length cap] w (JnR (jnt P) w) := by
  have HP := hide h
  have HSo := hide hs
  have HO0 : Hid (w.ownsRow w.heap.size 38 3 (.slice none 0 0) 0 (ints [])) := ⟨rfl, .inl ⟨rfl, rfl⟩⟩
  clear h hs
  go_enter Try.func20, Try.ntmps20
  go_wp2_with fail
  go_loopw [3, 5, 6, 9] (fun v _ _ i wr => ∃ k : Nat, k ≤ P.length ∧ i = .int .i64 k ∧ wr.ownsRow w.heap.size 38 3 v (jnt (P.take k)).length (ints (jl (jnt (P.take k)))) ∧ Below w.heap.size w wr) (fun _ _ _ i _ => P.length - (intOf i).toNat)
  case atStart => exact ⟨0, by omega, rfl, by simpa [jnt, jl] using HO0.out, Below.refl _ _⟩
  case round =>
    obtain ⟨k, hk, rfl, ho, hb⟩ := hrel
    clear HO0
    by_cases hlt : k < P.length
    · obtain ⟨q, hq⟩ : ∃ q, P[k]? = some q := ⟨_, List.getElem?_eq_getElem hlt⟩
      have htk : P.take (k + 1) = P.take k ++ [q] := by rw [List.take_add_one, hq]; rfl
      have hsr : (P.take k ++ [q]).Pairwise leP := by rw [← htk]; exact HSo.out.sublist (List.take_sublist _ _)
      obtain ⟨z0, z1, z2⟩ := (HP.out.below hb) k q hq
      obtain ⟨q1, q2⟩ := q
      have hbd := (jnt_bd (P.take k)).1
      have hbd2 : (jnt (P.take k)).length ≤ 4096 := by rw [List.length_take] at hbd; omega
      obtain ⟨wb, hwb⟩ : ∃ wb, wr.alloc (.cells #[.int .i64 q1, .int .i64 q2, .int .i64 1] 38) = wb := ⟨_, rfl⟩
      have hbb : Below wr.heap.size wr wb := by rw [← hwb]; exact bnew _ _
      have HBb := hide (bnext hb (Nat.le_refl _) hbb)
      have HOb := hide (ownsRow_up ho hbb)
      have j0 : wb.cell? ⟨wr.heap.size, 0, none⟩ = some (.int .i64 q1) := by rw [← hwb]; simp [go_sem]
      have j1 : wb.cell? ⟨wr.heap.size, 1, none⟩ = some (.int .i64 q2) := by rw [← hwb]; simp [go_sem]
      have j2 : wb.cell? ⟨wr.heap.size, 2, none⟩ = some (.int .i64 1) := by rw [← hwb]; simp [go_sem]
      have hst := jnt_step (P.take k) (q1, q2) hsr
      rw [← htk] at hst
      obtain ⟨L2, hL2⟩ : ∃ L2, jnt (P.take (k + 1)) = L2 := ⟨_, rfl⟩
      rw [hL2] at hst
      have HT := hide hL2
      have hcb : ∀ x ∈ jnt (P.take k), 0 < x.2.2 ∧ x.2.2 ≤ 4096 := fun x hx => by
        have h1 := (jnt_bd (P.take k)).2 x hx
        rw [List.length_take] at h1
        omega
      generalize hLk : jnt (P.take k) = L1 at *
      have HST := hide hst
      have HBS : Hid (w.heap.size ≤ wb.heap.size) := HBb.out.size
      clear ho hb hbb htk HP HSo hq hsr hbd hLk hst hL2
      rcases HST.out with ⟨e1, e2⟩ | ⟨L', p, c, e1, e2⟩
      · have E2 := hide e2
        subst e1
        obtain ⟨a, cap1, rfl, -⟩ := own_sl HOb.out
        clear HST e2 hcb
        have SK : Nonempty (Up wb) := up_ne wb
        go_upto_region 6 with fail
        refine region_up (by kernel_rfl) (by kernel_rfl) ?_
        repeat (go_big_quiet_step (exact rfl))
        refine wpQuiet_nil ?_
        intro _ hw2
        obtain ⟨pq, hw3⟩ := hw2
        subst hw3
        have HB2 := hide (bnext HBb.out (Nat.le_refl _) pq.below)
        have HO2 := hide (ownsRow_up HOb.out pq.below)
        have i0 := pq.cell j0
        have i1 := pq.cell j1
        have i2 := pq.cell j2
        have HS2 : Hid (w.heap.size ≤ pq.w.heap.size) := HB2.out.size
        have HL0 : Hid (([] : List J3).length ≤ 1048576) := by show _ ≤ _; simp
        clear j0 j1 j2 SK HBb HOb HBS hwb z0 z1 z2
        generalize pq.w = w2 at *
        go_wp2_with (refine growJ _ rfl _ _ rfl w.heap.size _ [] rfl w HO2.out HB2.out HS2.out q1 q2 1 rfl HL0.out ?_)
        intro v' w' ho' hb' hs'
        have HO' := hide ho'
        have HB' := hide hb'
        clear HO2 HB2 HS2 ho' hb' hs' i0 i1 i2
        go_wp2_with fail
        exact ⟨⟨k + 1, by omega, rfl, by rw [HT.out, E2.out]; exact HO'.out, HB'.out⟩, by simp [intOf]; omega⟩
      · obtain ⟨p1, p2⟩ := p
        have E2 := hide e2
        have hlen : L1.length = L'.length + 1 := by rw [e1]; simp
        obtain ⟨a, cap1, rfl, hc⟩ := own_sl HOb.out
        obtain ⟨b, rfl, hBb, hblt, hcc⟩ := hc (by omega)
        have hlast : L1[L'.length]? = some (p1, p2, c) := by rw [e1, List.getElem?_append_right (Nat.le_refl _)]; simp
        obtain ⟨g0, g1, g2⟩ := jl_get hlast
        have y0 := (hcc (L'.length * 3) (by omega)).1
        have y1 := (hcc (L'.length * 3 + 1) (by omega)).1
        obtain ⟨y2, fr2⟩ := hcc (L'.length * 3 + 2) (by omega)
        rw [g0] at y0
        rw [g1] at y1
        rw [g2] at y2
        have cC := fun w' => comparePairs_b p1 p2 c q1 q2 1 w'
        have hz := cfJ_zero (p1, p2) (q1, q2)
        have SK : Nonempty (Up wb) := up_ne wb
        have hM : L'.length ≤ 4096 := by omega
        have e6 : IntKind.i64.wrap ((L1.length : Int) - 1) = (L'.length : Int) := by rw [IntKind.wrap_i64, hlen]; omega
        have hMl : (L'.length : Int) < (L1.length : Int) := by omega
        have hM0 : ¬ (L'.length : Int) < 0 := by omega
        have HE1 := hide e1
        have HLen := hide hlen
        have HC := hide hbd2
        have hc0 := hcb (p1, p2, c) (by rw [HE1.out]; simp)
        have HC0 := hide hc0
        clear HST e2 hcc hcb hc0 hlast g0 g1 g2 e1 hlen hc hbd2
        generalize hMM : L'.length = M at *
        have HMM := hide hMM
        generalize hN1 : L1.length = n1 at *
        have HN1 : Hid (n1 = L1.length) := hN1.symm
        clear hN1
        generalize cfJ (p1, p2) (q1, q2) = cz at *
        have u0 := fun p : Up wb => p.cell j0
        have u1 := fun p : Up wb => p.cell j1
        have u2 := fun p : Up wb => p.cell j2
        have v0 := fun p : Up wb => p.cell y0
        have v1 := fun p : Up wb => p.cell y1
        have v2 := fun p : Up wb => p.cell y2
        clear hMM
        go_upto_region 6 with fail
        by_cases hq : cz = 0
        · have qz : (cz == 0) = true := by simp [hq]
          obtain ⟨he1, he2⟩ := hz.1 hq
          have HQ := hide hq
          clear hz hq
          refine region_up (by kernel_rfl) (by kernel_rfl) ?_
          repeat (go_big_quiet_step (first | exact rfl | (go_at_call 19; exact calls_up (cC _))))
          refine wpQuiet_nil ?_
          intro _ hw2
          obtain ⟨pq, hw3⟩ := hw2
          subst hw3
          have HB2 := hide (bnext HBb.out (Nat.le_refl _) pq.below)
          have HO2 := hide (ownsRow_up HOb.out pq.below)
          have x2 := pq.cell y2
          have i2 := pq.cell j2
          have r2 := (pq.below.frozen (p := ⟨b, M * 3 + 2, none⟩) hblt).trans fr2
          obtain ⟨c', hc'⟩ : ∃ c', c + 1 = c' := ⟨_, rfl⟩
          have wc : IntKind.i64.wrap (c + 1) = c' := by rw [IntKind.wrap_i64, ← hc']; have := HC0.out; dsimp only at this; omega
          have HL2 : Hid (L2 = L' ++ [(p1, p2, c')]) := by
            rcases E2.out with ⟨-, h⟩ | ⟨h, -⟩
            · rw [← hc']; exact h
            · exact absurd (Prod.ext he1 he2) h
          have HOn : Hid ((pq.w.setCell ⟨b, M * 3 + 2, none⟩ (.int .i64 c')).ownsRow w.heap.size 38 3 (.slice (some ⟨b, 0, none⟩) n1 cap1) L2.length (ints (jl L2))) := by
            have h9 := own_setI HO2.out (M * 3 + 2) c'
            have e9 := jl_last L' p1 p2 c c'
            rw [HMM.out] at e9
            have e8 : L1 = L' ++ [(p1, p2, c)] := HE1.out
            rw [e8, e9] at h9
            show World.ownsRow _ _ _ _ _ _ _
            rw [HL2.out, show (L' ++ [(p1, p2, c')]).length = n1 by rw [HLen.out, ← HMM.out]; simp]
            exact h9
          have HBn := hide (HB2.out.setCell (p := ⟨b, M * 3 + 2, none⟩) hBb (.int .i64 c'))
          clear u0 u1 u2 v0 v1 v2 j0 j1 j2 y0 y1 y2 SK HBb HOb HBS hwb z0 z1 z2 fr2 he1 he2 hc' HB2 HO2 cC E2 HE1 HC0 HL2
          generalize pq.w = w2 at *
          go_upto_region 7 with fail
          go_region
          all_goals
            clear x2 i2 r2 wc
            go_wp2_with fail
            exact ⟨⟨k + 1, by omega, rfl, by rw [HT.out]; exact HOn.out, HBn.out.drew⟩, by simp [intOf]; omega⟩
        · have qz : (cz == 0) = false := by simp [hq]
          have HQ := hide (fun h => hq (hz.2 h))
          clear hz hq
          refine region_up (by kernel_rfl) (by kernel_rfl) ?_
          repeat (go_big_quiet_step (first | exact rfl | (go_at_call 19; exact calls_up (cC _))))
          refine wpQuiet_nil ?_
          intro _ hw2
          obtain ⟨pq, hw3⟩ := hw2
          subst hw3
          have HB2 := hide (bnext HBb.out (Nat.le_refl _) pq.below)
          have HO2 := hide (ownsRow_up HOb.out pq.below)
          have i0 := pq.cell j0
          have i1 := pq.cell j1
          have i2 := pq.cell j2
          have HS2 : Hid (w.heap.size ≤ pq.w.heap.size) := HB2.out.size
          have HL2 : Hid (L2 = L1 ++ [(q1, q2, 1)]) := by
            rcases E2.out with ⟨h, -⟩ | ⟨-, h⟩
            · exact absurd (by cases h; exact ⟨rfl, rfl⟩) HQ.out
            · exact h
          have HL0 : Hid (L1.length ≤ 1048576) := by show _ ≤ _; rw [← HN1.out]; have := HC.out; omega
          have HO3 : Hid (pq.w.ownsRow w.heap.size 38 3 (.slice (some ⟨b, 0, none⟩) n1 cap1) L1.length (ints (jl L1))) := by show World.ownsRow _ _ _ _ _ _ _; rw [← HN1.out]; exact HO2.out
          clear u0 u1 u2 v0 v1 v2 j0 j1 j2 y0 y1 y2 SK HBb HOb HBS hwb z0 z1 z2 fr2 cC E2 HE1 HC0 HQ HO2
          generalize pq.w = w2 at *
          go_wp2_with (refine growJ _ rfl _ _ rfl w.heap.size _ L1 rfl w HO3.out HB2.out HS2.out q1 q2 1 rfl HL0.out ?_)
          intro v' w' ho' hb' hs'
          have HO' := hide ho'
          have HB' := hide hb'
          clear HO3 HB2 HS2 ho' hb' hs' i0 i1 i2
          go_wp2_with fail
          exact ⟨⟨k + 1, by omega, rfl, by rw [HT.out, HL2.out, List.length_append]; exact HO'.out, HB'.out⟩, by simp [intOf]; omega⟩
    · obtain rfl : k = P.length := by omega
      have HO := hide ho
      have HB := hide hb
      clear ho hb HP HSo
      go_wp2_with fail
      go_ret
      exact ⟨_, rfl, by simpa using HO.out, HB.out⟩

end Go.Proofs.Ytfpcenaaenondaa
