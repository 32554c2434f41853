/- The specification's bits, bytes and packed tones. -/
import Derived.Test.YtebcclmilplfcaaPkn
namespace Go.Proofs.Ytebcclmilplfcaa
open Go.RowKit

theorem l13Two_any (k : Nat) (hk : k ≤ 62) (w : World) : Calls Try.prog 27 #[.int .i64 k] w fun e w' => e = .returned (.int .i64 (2 ^ k)) ∧ w' = w := by
  go_enter Try.func27, Try.ntmps27
  go_wp2
  go_loop [0, 3] (fun i s => ∃ j : Nat, j ≤ k ∧ i = .int .i64 ((k : Int) - (j : Int)) ∧ s = .int .i64 (2 ^ j)) (fun i _ => (intOf i).toNat)
  case atStart => exact ⟨0, by omega, by simp, rfl⟩
  case round =>
    obtain ⟨j, hj, rfl, rfl⟩ := hrel
    by_cases hlt : j < k
    · have hp : (2 : Int) ^ j ≤ 2 ^ 61 := by exact_mod_cast Nat.pow_le_pow_right (by decide) (by omega : j ≤ 61)
      have hp0 := pow_pos2 j
      have HE : Hid ((2 : Int) ^ (j + 1) = 2 * 2 ^ j) := by show _ = _; rw [Int.pow_succ]; omega
      generalize (2 : Int) ^ j = P at *
      go_wp2
      exact ⟨⟨j + 1, by omega, by congr 1; omega, by rw [HE.out]⟩, by simp [intOf]; omega⟩
    · obtain rfl : j = k := by omega
      go_wp2
      go_ret
      exact ⟨rfl, rfl⟩

theorem l13Tones_any (a : Option Addr) (len cap : Nat) (f : Nat → Int) (hl : len ≤ 1048576) (w : World) (h : Px a len f w) :
    Calls Try.prog 20 #[.slice a len cap] w fun e w' => e = .returned (.bool (decide (len ≤ 65536) && allG (fun k => inB (f k) 0 65535) len)) ∧ w' = w := by
  have HP := hide h
  clear h
  by_cases hbig : 65536 < len
  · have d : decide (len ≤ 65536) = false := by simp; omega
    rw [d]
    go_enter Try.func20, Try.ntmps20
    go_wp2
    go_ret
    exact ⟨rfl, rfl⟩
  · have d : decide (len ≤ 65536) = true := by simp; omega
    rw [d]
    go_enter Try.func20, Try.ntmps20
    go_wp2
    go_loop [3] (fun i => ∃ k : Nat, k ≤ len ∧ i = .int .i64 k ∧ Hid (allG (fun k => inB (f k) 0 65535) k = true)) (fun i => len - (intOf i).toNat)
    case atStart => exact ⟨0, by omega, rfl, hide rfl⟩
    case round =>
      obtain ⟨k, hk, rfl, HG⟩ := hrel
      by_cases hlt : k < len
      · obtain ⟨b, off, rfl, hz⟩ := HP.out.at hlt
        have c := l1In_any (f k) 0 65535 w
        by_cases hv : inB (f k) 0 65535 = true
        · have HG2 : Hid (allG (fun k => inB (f k) 0 65535) (k + 1) = true) := by show _ = _; simp only [allG]; rw [HG.out, hv]; rfl
          rw [hv] at c
          clear HP HG hv
          go_wp2_with (refine c.mono ?_; rintro e w1 ⟨rfl, rfl⟩)
          exact ⟨⟨k + 1, by omega, rfl, HG2⟩, by simp [intOf]; omega⟩
        · have hv' : inB (f k) 0 65535 = false := by simpa using hv
          have HG2 : Hid (allG (fun k => inB (f k) 0 65535) len = false) := by
            show _ = _
            rw [Bool.eq_false_iff]
            intro h9
            exact hv (allG_at h9 k hlt)
          rw [hv'] at c
          clear HP HG hv hv'
          go_wp2_with (refine c.mono ?_; rintro e w1 ⟨rfl, rfl⟩)
          go_ret
          exact ⟨by rw [HG2.out]; rfl, rfl⟩
      · obtain rfl : k = len := by omega
        go_wp2
        go_ret
        exact ⟨by rw [HG.out]; rfl, rfl⟩

/-- the first bits of bits -/
theorem take_snoc (L : List Int) (k : Nat) (h : k < L.length) : L.take (k + 1) = L.take k ++ [L.getD k 0] := by
  rw [List.take_add_one, List.getD_eq_getElem?_getD, List.getElem?_eq_getElem h]
  rfl
theorem isBits.take {L : List Int} (h : isBits L) (k : Nat) : isBits (L.take k) := fun j => by
  by_cases e : j < k
  · rw [List.getD_eq_getElem?_getD, List.getElem?_take_of_lt e, ← List.getD_eq_getElem?_getD]
    exact h j
  · left
    exact getD_far (by rw [List.length_take]; omega)

/-- a row of its own: one byte of it is written -/
theorem RowV.upd {b len : Nat} {f : Nat → Value} {w : World} (h : RowV b len f w) {k : Nat} (hk : k < len) (v : Value) (g : Nat → Value) (hg : ∀ j, j < len → g j = if j = k then v else f j) : RowV b len g (w.setCell ⟨b, k, none⟩ v) := fun j hj => by
  obtain ⟨hc, fr⟩ := h j hj
  refine ⟨?_, by simpa using fr⟩
  rw [hg j hj]
  by_cases e : j = k
  · subst e
    rw [if_pos rfl]
    exact World.cell?_setCell_same _ _ _ hc
  · rw [if_neg e, World.cell?_setCell_other _ _ _ _ (by simp; try omega)]
    exact hc
theorem RowV.congr {b len : Nat} {f g : Nat → Value} {w : World} (h : RowV b len f w) (e : ∀ j, j < len → g j = f j) : RowV b len g w := fun j hj => by
  rw [e j hj]; exact h j hj
theorem rowU_new (n : Nat) (w : World) : RowV w.heap.size n (u8V fun _ => 0) (w.alloc (.cells (madeCells #[.int .u8 0] n) 5)) := fun j hj => by
  have : (madeCells #[Value.int .u8 0] n)[j]? = some (.int .u8 0) := by
    rw [← Array.getElem?_toList, toList_madeCells_one, List.getElem?_replicate, if_pos hj]
  exact ⟨by simp [go_sem, this], by simp [go_sem]⟩

set_option maxHeartbeats 1000000 in
theorem l13BytesA_any (a : Option Addr) (n cap : Nat) (L : List Int) (hn : n = L.length) (hl : n ≤ 8000000) (hL : isBits L) (w : World) (h : PxU a n (fun k => L.getD k 0) w) :
    Calls Try.prog 28 #[.slice a n cap] w fun e w' => e = .returned (.slice (some ⟨w.heap.size, 0, none⟩) (nB n) (nB n)) ∧ RowV w.heap.size (nB n) (u8V (byA L)) w' ∧ Below w.heap.size w w' := by
  have hB8 : nB n ≤ 1048576 := by unfold nB; omega
  have hmk := make_u8 (nB n) hB8 w
  have hq : ((nB n : Nat) : Int) = ((n : Int) + 7) / 8 := by unfold nB; omega
  rw [hq] at hmk
  have HP := hide h
  have HN := hide hn
  have HL := hide hL
  clear h hn hL
  go_enter Try.func28, Try.ntmps28
  go_wp2
  go_loopw [4] (fun i wr => ∃ k : Nat, k ≤ n ∧ i = .int .i64 k ∧ RowV w.heap.size (nB n) (u8V (byA (L.take k))) wr ∧ Below w.heap.size w wr ∧ w.heap.size < wr.heap.size) (fun i _ => n - (intOf i).toNat)
  case atStart =>
    exact ⟨0, by omega, rfl, (rowU_new (nB n) w).congr fun j hj => congrArg (Value.int .u8) (byA_far (by simp)), bnew _ _, by simp⟩
  case round =>
    obtain ⟨k, hk, rfl, hr, hb, hs⟩ := hrel
    clear hmk hq
    by_cases hlt : k < n
    · obtain ⟨b, off, rfl, hz⟩ := (HP.out.below hb).at hlt
      have hT := take_snoc L k (by rw [← HN.out]; exact hlt)
      have hTl : (L.take k).length = k := by rw [List.length_take]; have := HN.out; omega
      have hbt : isBits (L.take k) := HL.out.take k
      have hs8 := fun j => byA_snoc (L.take k) (L.getD k 0) j
      rw [← hT, hTl] at hs8
      have HL1 := HL.out k
      have hx := byA_low hbt
      rw [hTl] at hx
      generalize hbk : L.getD k 0 = bt at *
      have hk8 : k / 8 < nB n := by unfold nB; omega
      have hy : wr.cell? ⟨w.heap.size, k / 8, none⟩ = some (.int .u8 (byA (L.take k) (k / 8))) := (hr (k / 8) hk8).1
      have fr : wr.frozen? ⟨w.heap.size, k / 8, none⟩ = false := (hr (k / 8) hk8).2
      rcases HL1 with e | e
      · have HR : Hid (RowV w.heap.size (nB n) (u8V (byA (L.take (k + 1)))) wr) := hr.congr fun j hj => congrArg (Value.int .u8) (by rw [hs8 j, e, Int.zero_mul, Int.add_zero, ite_self])
        have HB := hide hb
        have HS := hide hs
        subst e
        clear HP HN HL hT hTl hbt hs8 hr hx hy fr hk8 hb hs hbk
        go_wp2
        go_roundw
        case rel => exact ⟨k + 1, by omega, by go_num, HR.out, HB.out, HS.out⟩
        case measure => simp [intOf]; omega
      · have hp : (2 : Int) ^ (k % 8) ≤ 128 := by
          have : (2 : Int) ^ (k % 8) ≤ 2 ^ 7 := by exact_mod_cast Nat.pow_le_pow_right (by decide) (by omega : k % 8 ≤ 7)
          omega
        have hp0 := pow_pos2 (k % 8)
        have c2 := l13Two_any (k % 8) (by omega)
        have HR := hide (hr.upd hk8 (.int .u8 (byA (L.take k) (k / 8) + 2 ^ (k % 8))) (u8V (byA (L.take (k + 1)))) (fun j hj => by
          show Value.int .u8 (byA (L.take (k + 1)) j) = _
          rw [hs8 j, e, Int.one_mul]
          by_cases g : j = k / 8
          · rw [if_pos g, if_pos g, g]
          · rw [if_neg g, if_neg g]))
        have HB : Hid (Below w.heap.size w (wr.setCell ⟨w.heap.size, k / 8, none⟩ (.int .u8 (byA (L.take k) (k / 8) + 2 ^ (k % 8))))) := hb.setCell (Nat.le_refl _) _
        have HS : Hid (w.heap.size < (wr.setCell ⟨w.heap.size, k / 8, none⟩ (.int .u8 (byA (L.take k) (k / 8) + 2 ^ (k % 8)))).heap.size) := by show _ < _; simpa using hs
        subst e
        have e1 : (k : Int).tmod 8 = ((k % 8 : Nat) : Int) := by rw [Int.tmod_eq_emod_of_nonneg (by omega)]; simp
        have e2 : (k : Int).tdiv 8 = ((k / 8 : Nat) : Int) := by rw [Int.tdiv_eq_ediv_of_nonneg (by omega)]; simp
        have e3 : IntKind.i64.wrap ((k / 8 : Nat) : Int) = ((k / 8 : Nat) : Int) := by rw [IntKind.wrap_i64]; omega
        have e4 : IntKind.i64.wrap ((k % 8 : Nat) : Int) = ((k % 8 : Nat) : Int) := by rw [IntKind.wrap_i64]; omega
        generalize (2 : Int) ^ (k % 8) = P at *
        have hxw : IntKind.u8.wrap (byA (L.take k) (k / 8) + P) = byA (L.take k) (k / 8) + P := by rw [IntKind.wrap_u8]; omega
        have hPw : IntKind.u8.wrap P = P := by rw [IntKind.wrap_u8]; omega
        generalize byA (L.take k) (k / 8) = X at *
        generalize hq8 : k / 8 = q at *
        generalize ht8 : k % 8 = t at *
        clear hq8 ht8
        clear HP HN HL hT hTl hbt hs8 hr hb hs hbk
        go_upto_region 6 with fail
        go_region_with (go_at_call 27; (with_reducible refine (c2 _).mono ?_); rintro e w1 ⟨rfl, rfl⟩)
        all_goals
          generalize hw2 : World.setCell wr ⟨w.heap.size, q, none⟩ (.int .u8 (X + P)) = w2 at *
          clear hw2 c2 hy fr
          go_wp2
          go_roundw
          case rel => exact ⟨k + 1, by omega, by go_num, HR.out, HB.out.drew, HS.out⟩
          case measure => simp [intOf]; omega
    · obtain rfl : k = n := by omega
      go_wp2
      go_ret
      rw [List.take_of_length_le (by rw [HN.out]; omega)] at hr
      exact ⟨rfl, hr, hb⟩

theorem l13Bytes_any (a : Option Addr) (n cap : Nat) (L : List Int) (hn : n = L.length) (hl : n ≤ 8000000) (hL : isBits L) (w : World) (h : PxU a n (fun k => L.getD k 0) w) :
    Calls Try.prog 28 #[.slice a n cap] w (LsU (nB n) (byA L) w) :=
  (l13BytesA_any a n cap L hn hl hL w h).mono fun _ _ ⟨he, hr, hb⟩ => ⟨_, _, _, he, hr.v, .inr (Nat.le_refl _), hb⟩

set_option maxRecDepth 100000 in
theorem own_u8 {w : World} {B n : Nat} {v : Value} {L : List Int} (h : w.ownsRow B 5 1 v n (bys L)) : ∃ a cap b, v = .slice a n cap ∧ OwV a b n (u8V fun k => L.getD k 0) w ∧ (n = 0 ∨ B ≤ b) := by
  have h' := h
  obtain ⟨hlen, hv | ⟨b, cap, cur, hv, hg, hcur, _, hm, _, _⟩⟩ := h'
  · obtain ⟨rfl, h0⟩ := hv
    exact ⟨none, 0, 0, by rw [h0], .inl h0, .inl h0⟩
  · subst hv
    refine ⟨_, cap, b, rfl, .inr ⟨rfl, fun k hk => ⟨?_, ?_⟩⟩, .inr hg⟩
    · rw [h.cellAt k (by omega)]
      rw [bys_length] at hlen
      exact bys_at L k (by omega)
    · exact h.frozenAt k

end Go.Proofs.Ytebcclmilplfcaa
