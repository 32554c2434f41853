/- A flow of the call's own, in its box: where an order stands, a tick. -/
import Derived.Test.YtfhfddmiiopgdaaFlq
import Derived.Test.YtfhfddmiiopgdaaQup
namespace Go.Proofs.Ytfhfddmiiopgdaa
open Go.RowKit

theorem own_pxO {B m : Nat} {e : TypeId} {v : Value} {L : List Int} {wr : World} (h0 : wr.ownsRow B e 4 v m (ints L)) : ∃ ad cp, v = .slice ad m cp ∧ (ad = none → m = 0 ∧ cp = 0) ∧ Px ad (m * 4) (fun k => L.getD k 0) wr := by
  have hl : L.length = m * 4 := by have := h0.1; rw [ints_length] at this; omega
  have h := h0
  obtain ⟨hlen, hv | ⟨b, cp, cur, hv, hg, hcur, _, hm2, _, _⟩⟩ := h
  · exact ⟨none, 0, by rw [hv.1, hv.2], fun _ => ⟨hv.2, rfl⟩, .inl (by rw [hv.2, Nat.zero_mul])⟩
  · subst hv
    refine ⟨_, cp, rfl, (fun h => by cases h), .inr ⟨b, 0, rfl, fun k hk => ?_⟩⟩
    rw [Nat.zero_add, h0.cellAt k hk, ints_at _ _ (by omega)]
theorem own_setO {w : World} {B n b cap m : Nat} {e : TypeId} {L : List Int} (h : w.ownsRow B e m (.slice (some ⟨b, 0, none⟩) n cap) n (ints L)) (k : Nat) (z : Int) :
    (w.setCell ⟨b, k, none⟩ (.int .i64 z)).ownsRow B e m (.slice (some ⟨b, 0, none⟩) n cap) n (ints (L.set k z)) := by
  obtain ⟨h1, h2⟩ := h
  refine ⟨by rw [ints_length] at h1 ⊢; rw [List.length_set]; exact h1, ?_⟩
  rcases h2 with ⟨hv, _⟩ | ⟨b', cap', cur, hv, hB, hh, hn, hc, hs, ht⟩
  · cases hv
  · cases hv
    refine .inr ⟨b, cap, cur.setIfInBounds k (.int .i64 z), rfl, hB, ?_, hn, hc, by rw [Array.size_setIfInBounds]; exact hs, ?_⟩
    · rw [heap_setCell_same w b k cur e _ hh]
    · rw [Array.toList_setIfInBounds, List.take_set, ht]
      unfold ints
      rw [List.map_set]
theorem owns_farO {w w' : World} {B m n : Nat} {e : TypeId} {v : Value} {xs : List Value} (h : w.ownsRow B e m v n xs) (hk : ∀ b, v.ownBlock = some b → w'.heap[b]? = w.heap[b]?) : w'.ownsRow B e m v n xs := by
  refine ⟨h.1, ?_⟩
  rcases h.2 with hn | ⟨g, cap, cur, hv, hB, hg, rest⟩
  · exact .inl hn
  · exact .inr ⟨g, cap, cur, hv, hB, (hk g (by rw [hv]; rfl)).trans hg, rest⟩

/-- a flow of the call's own in the box P -/
structure FSG (Gh : Nat → Option Obj) (B P : Nat) (c : Int) (v : Value) (n : Nat) (L : List Int) (w : World) : Prop where
  box : Bx P [.int .i64 c, v] w
  own : w.ownsRow B 41 4 v n (ints L)
  hB : B ≤ P
  far : ∀ b, v.ownBlock = some b → b ≠ P
  side : ∀ k o, Gh k = some o → w.heap[k]? = some o ∧ k ≠ P ∧ v.ownBlock ≠ some k
/-- no block is kept aside -/
abbrev gNo : Nat → Option Obj := fun _ => none
abbrev FS := FSG gNo
theorem FSG.old {Gh : Nat → Option Obj} {B P : Nat} {c : Int} {v : Value} {n : Nat} {L : List Int} {w : World} (h : FSG Gh B P c v n L w) {k : Nat} {o : Obj} (hk : Gh k = some o) : k < w.heap.size := by
  have := (h.side k o hk).1
  rw [Array.getElem?_eq_some_iff] at this
  exact this.1
theorem FSG.upS {Gh : Nat → Option Obj} {B P : Nat} {c : Int} {v : Value} {n : Nat} {L : List Int} {w w' : World} (h : FSG Gh B P c v n L w) (hb : Below w.heap.size w w') : ∀ k o, Gh k = some o → w'.heap[k]? = some o ∧ k ≠ P ∧ v.ownBlock ≠ some k := fun k o hk =>
  ⟨(hb.block k (h.old hk)).trans (h.side k o hk).1, (h.side k o hk).2⟩
theorem FSG.setS {Gh : Nat → Option Obj} {B P : Nat} {c : Int} {v : Value} {n : Nat} {L : List Int} {w : World} (h : FSG Gh B P c v n L w) (q : Addr) (u : Value) (hq : ∀ k o, Gh k = some o → k ≠ q.block) : ∀ k o, Gh k = some o → (w.setCell q u).heap[k]? = some o ∧ k ≠ P ∧ v.ownBlock ≠ some k := fun k o hk =>
  ⟨(Below.heap_setCell w q u k (hq k o hk)).trans (h.side k o hk).1, (h.side k o hk).2⟩
theorem FSG.len {Gh : Nat → Option Obj} {B P : Nat} {c : Int} {v : Value} {n : Nat} {L : List Int} {w : World} (h : FSG Gh B P c v n L w) : L.length = n * 4 := by
  have := h.own.1; rw [ints_length] at this; omega
theorem FSG.lt {Gh : Nat → Option Obj} {B P : Nat} {c : Int} {v : Value} {n : Nat} {L : List Int} {w : World} (h : FSG Gh B P c v n L w) : P < w.heap.size := World.block_lt_of_cell? _ _ (h.box 0 _ rfl).1
theorem FSG.below {Gh : Nat → Option Obj} {B P : Nat} {c : Int} {v : Value} {n : Nat} {L : List Int} {w w' : World} (h : FSG Gh B P c v n L w) (hb : Below w.heap.size w w') : FSG Gh B P c v n L w' :=
  ⟨h.box.below hb h.lt, ownsRow_below' h.own hb, h.hB, h.far, h.upS hb⟩
/-- its numbers as a function -/
def gL (L : List Int) (k : Nat) : Int := L.getD k 0
/-- the Ids rise -/
def risL (L : List Int) (n : Nat) : Prop := ∀ i j, i < j → j < n → gL L (i * 4) < gL L (j * 4)

set_option maxRecDepth 100000 in
set_option maxHeartbeats 1000000 in
theorem placeOf_any {Gh : Nat → Option Obj} (B P : Nat) (c : Int) (v : Value) (n : Nat) (L : List Int) (x : Int) (hn : n ≤ 1048576) (hr : risL L n) (w : World) (h : FSG Gh B P c v n L w) :
    Calls Try.prog 34 #[.pointer (some ⟨P, 0, none⟩), .int .i64 x] w fun e w' => (∃ p : Nat, e = .returned (.tuple #[.int .i64 p, .bool (decide (p < n ∧ gL L (p * 4) = x))]) ∧ isPl (gL L) n x p) ∧ Below w.heap.size w w' := by
  obtain ⟨ad, cp, rfl, -, hpx⟩ := own_pxO h.own
  have i1 := (h.box 1 _ rfl).1
  have cS := search_any ad n cp (gL L) x hn hr w hpx
  clear h hpx hr
  go_enter Try.func34, Try.ntmps34
  go_wp2_with fail
  refine cS.mono ?_
  rintro e w1 ⟨⟨p, rfl, hp⟩, hb⟩
  have HP := hide hp
  have HB := hide hb
  clear cS hp hb i1
  generalize hD : decide (p < n ∧ gL L (p * 4) = x) = D at *
  have HD := hide hD
  clear hD
  go_wp2_with fail
  exact bodyPost_ret (v := .tuple #[.int .i64 p, .bool D]) (by simp [results, Try.results34, go_sem]) rfl ⟨⟨p, by rw [HD.out], HP.out⟩, HB.out⟩

/-- the orders when k are through a tick to the clock c -/
def tkL (c : Int) (L : List Int) : Nat → List Int
  | 0 => L
  | k + 1 => if (opB (gL L (k * 4 + 1)) && decide (gL L (k * 4 + 2) < c)) = true then ((tkL c L k).set (k * 4 + 1) 5).set (k * 4 + 3) c else tkL c L k
theorem gL_set (L : List Int) (q k : Nat) (z : Int) (h : q ≠ k) : gL (L.set k z) q = gL L q := by
  unfold gL
  rw [List.getD_eq_getElem?_getD, List.getD_eq_getElem?_getD, List.getElem?_set_ne (by omega)]
theorem tk_rest (c : Int) (L : List Int) : ∀ k q, k * 4 ≤ q → gL (tkL c L k) q = gL L q
  | 0, _, _ => rfl
  | k + 1, q, h => by
    have ih := tk_rest c L k q (by omega)
    simp only [tkL]
    split
    · rw [gL_set _ _ _ _ (by omega), gL_set _ _ _ _ (by omega), ih]
    · exact ih
theorem FSG.set {Gh : Nat → Option Obj} {B P : Nat} {c : Int} {n b cp : Nat} {L : List Int} {w : World} (h : FSG Gh B P c (.slice (some ⟨b, 0, none⟩) n cp) n L w) (k : Nat) (z : Int) : FSG Gh B P c (.slice (some ⟨b, 0, none⟩) n cp) n (L.set k z) (w.setCell ⟨b, k, none⟩ (.int .i64 z)) :=
  ⟨h.box.kept ((Kept.refl b w).setCell rfl _) (fun e => h.far b rfl e.symm), own_setO h.own k z, h.hB, h.far, h.setS _ _ fun q o hq e => (h.side q o hq).2.2 (by rw [e]; rfl)⟩
theorem FSG.clock {Gh : Nat → Option Obj} {B P : Nat} {c : Int} {v : Value} {n : Nat} {L : List Int} {w : World} (h : FSG Gh B P c v n L w) (z : Int) : FSG Gh B P z v n L (w.setCell ⟨P, 0, none⟩ (.int .i64 z)) :=
  ⟨h.box.set 0 _, owns_farO h.own fun b hb => Below.heap_setCell w ⟨P, 0, none⟩ _ b (h.far b hb), h.hB, h.far, h.setS _ _ fun q o hq => (h.side q o hq).2.1⟩
theorem FSG.form {Gh : Nat → Option Obj} {B P : Nat} {c : Int} {v : Value} {n : Nat} {L : List Int} {w : World} (h : FSG Gh B P c v n L w) (hn : n ≠ 0) :
    ∃ b cp, v = .slice (some ⟨b, 0, none⟩) n cp ∧ B ≤ b ∧ ∀ k, k < n * 4 → w.cell? ⟨b, k, none⟩ = some (.int .i64 (gL L k)) ∧ w.frozen? ⟨b, k, none⟩ = false := by
  have hl := h.len
  have h0 := h.own
  obtain ⟨hlen, hv | ⟨b, cp, cur, hv, hg, hcur, _, hm2, _, _⟩⟩ := h.own
  · exact absurd hv.2 hn
  · subst hv
    refine ⟨b, cp, rfl, hg, fun k hk => ⟨?_, h0.frozenAt k⟩⟩
    rw [h0.cellAt k hk, ints_at _ _ (by omega)]; rfl

set_option maxRecDepth 100000 in
set_option maxHeartbeats 4000000 in
theorem implTick_any {Gh : Nat → Option Obj} (B P : Nat) (c : Int) (v : Value) (n : Nat) (L : List Int) (hn : n ≤ 1048576) (hc : 0 ≤ c ∧ c ≤ 1000000000) (w : World) (h : FSG Gh B P c v n L w) :
    Calls Try.prog 28 #[.pointer (some ⟨P, 0, none⟩)] w fun e w' => e = .returned (.int .i64 (if c = 1000000000 then 3 else 0)) ∧ FSG Gh B P (if c = 1000000000 then c else c + 1) v n (if c = 1000000000 then L else tkL (c + 1) L n) w' ∧ Below B w w' := by
  have i0 := (h.box 0 _ rfl).1
  have i1 := (h.box 1 _ rfl).1
  have f0 := (h.box 0 _ rfl).2
  by_cases hm : c = 1000000000
  · subst hm
    simp only [if_true]
    have HF := hide h
    clear h
    go_enter Try.func28, Try.ntmps28
    go_wp2_with fail
    go_ret
    exact ⟨rfl, HF.out, Below.refl _ _⟩
  · simp only [if_neg hm]
    have hc2 : ¬ (1000000000 : Int) ≤ c := by omega
    have HF1 := hide (h.clock (c + 1))
    have HB1 : Hid (Below B w (w.setCell ⟨P, 0, none⟩ (.int .i64 (c + 1)))) := (Below.refl _ _).setCell h.hB _
    obtain ⟨ad, cp, rfl, -, -⟩ := own_pxO h.own
    clear h
    go_enter Try.func28, Try.ntmps28
    go_upto_region 4 with fail
    generalize hw1 : w.setCell ⟨P, 0, none⟩ (.int .i64 (c + 1)) = w1 at *
    clear hw1 i0 i1 f0
    have i1 := (HF1.out.box 1 _ rfl).1
    go_wp2_with fail
    clear i1
    go_loopw [22] (fun i wr => ∃ k : Nat, k ≤ n ∧ i = .int .i64 k ∧ FSG Gh B P (c + 1) (.slice ad n cp) n (tkL (c + 1) L k) wr ∧ Below B w wr) (fun i _ => n - (intOf i).toNat)
    case atStart => exact ⟨0, by omega, rfl, HF1.out, HB1.out⟩
    case round =>
      obtain ⟨k, hk, rfl, hF, hb⟩ := hrel
      have HF := hide hF
      have HB := hide hb
      clear hF hb HF1 HB1
      by_cases hlt : k < n
      · obtain ⟨b, cp', hbe, hBb, hcl⟩ := HF.out.form (by omega)
        cases hbe
        obtain ⟨z0, -⟩ := hcl (k * 4) (by omega)
        obtain ⟨z1, g1⟩ := hcl (k * 4 + 1) (by omega)
        obtain ⟨z2, -⟩ := hcl (k * 4 + 2) (by omega)
        obtain ⟨z3, g3⟩ := hcl (k * 4 + 3) (by omega)
        rw [tk_rest _ _ _ _ (by omega)] at z0 z1 z2 z3
        have cO := isOpenOrder_any (gL L (k * 4)) (gL L (k * 4 + 1)) (gL L (k * 4 + 2)) (gL L (k * 4 + 3))
        obtain ⟨wb, hwb⟩ : ∃ wb, wb = wr.alloc (cOrder (gL L (k * 4)) (gL L (k * 4 + 1)) (gL L (k * 4 + 2)) (gL L (k * 4 + 3)) 41) := ⟨_, rfl⟩
        have hbb : Below wr.heap.size wr wb := by rw [hwb]; exact bnew _ _
        obtain ⟨q0, q1, q2, q3⟩ : BOrder wr.heap.size (gL L (k * 4)) (gL L (k * 4 + 1)) (gL L (k * 4 + 2)) (gL L (k * 4 + 3)) wb := by rw [hwb]; exact BOrder.new _ _ _ _ _ _
        have hwb' := hwb.symm
        have HFb := hide (HF.out.below hbb)
        have HBb : Hid (Below B w wb) := HB.out.trans (hbb.mono (Nat.le_trans HF.out.hB (Nat.le_of_lt HF.out.lt)))
        have j0 := (HFb.out.box 0 _ rfl).1
        have HK : Hid (tkL (c + 1) L (k + 1) = if (opB (gL L (k * 4 + 1)) && decide (gL L (k * 4 + 2) < c + 1)) = true then ((tkL (c + 1) L k).set (k * 4 + 1) 5).set (k * 4 + 3) (c + 1) else tkL (c + 1) L k) := rfl
        clear hwb hbb HF HB hcl g1 g3
        generalize gL L (k * 4) = y0 at *
        generalize gL L (k * 4 + 1) = y1 at *
        generalize gL L (k * 4 + 2) = y2 at *
        generalize gL L (k * 4 + 3) = y3 at *
        generalize opB y1 = OB at *
        have SK : Nonempty (Up wb) := up_ne wb
        have u0 := fun p : Up wb => p.cell j0
        have u1 := fun p : Up wb => p.cell q0
        have u2 := fun p : Up wb => p.cell q1
        have u3 := fun p : Up wb => p.cell q2
        have u4 := fun p : Up wb => p.cell q3
        cases OB
        · have HK2 : Hid (tkL (c + 1) L (k + 1) = tkL (c + 1) L k) := by show _ = _; rw [HK.out]; rfl
          clear HK
          go_upto_region 7 with fail
          refine region_up (by kernel_rfl) (by kernel_rfl) ?_
          repeat (go_big_quiet_step ((go_at_call 36; exact calls_up (cO _))))
          refine wpQuiet_nil ?_
          intro _ hw2
          obtain ⟨pq, hw3⟩ := hw2
          subst hw3
          have HF2 := hide (HFb.out.below pq.below)
          have HB2 : Hid (Below B w pq.w) := HBb.out.trans (pq.below.mono (Nat.le_trans HFb.out.hB (Nat.le_of_lt HFb.out.lt)))
          clear u0 u1 u2 u3 u4 SK z0 z1 z2 z3 q0 q1 q2 q3 j0 hwb' cO HFb HBb
          generalize pq.w = w2 at *
          go_wp2_with fail
          exact ⟨⟨k + 1, by omega, rfl, by rw [HK2.out]; exact HF2.out, HB2.out⟩, by simp [intOf]; omega⟩
        · by_cases hd : y2 < c + 1
          · have HK2 : Hid (tkL (c + 1) L (k + 1) = ((tkL (c + 1) L k).set (k * 4 + 1) 5).set (k * 4 + 3) (c + 1)) := by show _ = _; rw [HK.out, decide_eq_true hd]; rfl
            clear HK
            go_upto_region 7 with fail
            refine region_up (by kernel_rfl) (by kernel_rfl) ?_
            repeat (go_big_quiet_step ((go_at_call 36; exact calls_up (cO _))))
            refine wpQuiet_nil ?_
            intro _ hw2
            obtain ⟨pq, hw3⟩ := hw2
            subst hw3
            have HF2 := hide (HFb.out.below pq.below)
            have HB2 : Hid (Below B w pq.w) := HBb.out.trans (pq.below.mono (Nat.le_trans HFb.out.hB (Nat.le_of_lt HFb.out.lt)))
            clear u0 u1 u2 u3 u4 SK z0 z1 z2 z3 q0 q1 q2 q3 j0 hwb' cO HFb HBb
            generalize pq.w = w2 at *
            have j0 := (HF2.out.box 0 _ rfl).1
            have j1 := (HF2.out.box 1 _ rfl).1
            obtain ⟨b', cp', hbe, -, hcl⟩ := HF2.out.form (by omega)
            cases hbe
            obtain ⟨t1, e1⟩ := hcl (k * 4 + 1) (by omega)
            obtain ⟨t3, e3⟩ := hcl (k * 4 + 3) (by omega)
            have HFd : Hid (FSG Gh B P (c + 1) (.slice (some ⟨b, 0, none⟩) n cp) n (tkL (c + 1) L k) w2.drew) := HF2.out.below (Below.refl _ _).drew
            have HFF := hide ((HFd.out.set (k * 4 + 1) 5).set (k * 4 + 3) (c + 1))
            have HBF : Hid (Below B w ((w2.drew.setCell ⟨b, k * 4 + 1, none⟩ (.int .i64 5)).setCell ⟨b, k * 4 + 3, none⟩ (.int .i64 (c + 1)))) := (HB2.out.drew.setCell hBb _).setCell hBb _
            clear hcl HF2 HFd HB2
            go_wp2_with fail
            go_region
            all_goals
              go_wp2_with fail
              exact ⟨⟨k + 1, by omega, rfl, by rw [HK2.out]; exact HFF.out, HBF.out⟩, by simp [intOf]; omega⟩
          · have HK2 : Hid (tkL (c + 1) L (k + 1) = tkL (c + 1) L k) := by show _ = _; rw [HK.out, decide_eq_false hd]; rfl
            clear HK
            go_upto_region 7 with fail
            refine region_up (by kernel_rfl) (by kernel_rfl) ?_
            repeat (go_big_quiet_step ((go_at_call 36; exact calls_up (cO _))))
            refine wpQuiet_nil ?_
            intro _ hw2
            obtain ⟨pq, hw3⟩ := hw2
            subst hw3
            have HF2 := hide (HFb.out.below pq.below)
            have HB2 : Hid (Below B w pq.w) := HBb.out.trans (pq.below.mono (Nat.le_trans HFb.out.hB (Nat.le_of_lt HFb.out.lt)))
            clear u0 u1 u2 u3 u4 SK z0 z1 z2 z3 q0 q1 q2 q3 j0 hwb' cO HFb HBb
            generalize pq.w = w2 at *
            go_wp2_with fail
            exact ⟨⟨k + 1, by omega, rfl, by rw [HK2.out]; exact HF2.out, HB2.out⟩, by simp [intOf]; omega⟩
      · obtain rfl : k = n := by omega
        go_wp2_with fail
        go_ret
        exact ⟨rfl, HF.out, HB.out⟩

end Go.Proofs.Ytfhfddmiiopgdaa
