/- The draw of a list of complex numbers. -/
import Derived.Test.YtfgjooddolnifaaZDrawCx2
import Derived.Test.YtfgjooddolnifaaZSum3
namespace Go.Proofs.Ytfgjooddolnifaa.Z
open Ieee Go.RowKit Fl
attribute [local go_sem] run_store_float alloc_drewN setCell_drewN shape?_drewN

def AllF (xs : List Value) : Prop := ∀ u ∈ xs, ∃ x, u = .float .f64 x

theorem Kept.grown {p : Nat} {w w' : World} (h : Kept p w w') : w.grownBy w' (some p) :=
  ⟨h.os, h.tape, h.output, h.size, fun k hk hp => h.block k hk (fun e => hp (by rw [e]))⟩

/-- the cursor behind what leaves all below B -/
theorem Cur.belowB {p B : Nat} {a : Option Addr} {len cap : Nat} {w w' : World} (h : Cur p a len cap w) (hb : Below B w w') (hp : p < B) (ha : len = 0 ∨ ∃ b off, a = some ⟨b, off, none⟩ ∧ b < B) : Cur p a len cap w' := by
  obtain ⟨h0, ⟨i, hi, h1⟩, ⟨y, h2⟩, f1, f2, hs, hby⟩ := h
  refine ⟨?_, ⟨i, hi, ?_⟩, ⟨y, ?_⟩, ?_, ?_, hs, ?_⟩
  · exact (hb.cell (p := ⟨p, 0, none⟩) hp).trans h0
  · exact (hb.cell (p := ⟨p, 1, none⟩) hp).trans h1
  · exact (hb.cell (p := ⟨p, 2, none⟩) hp).trans h2
  · exact (hb.frozen (p := ⟨p, 1, none⟩) hp).trans f1
  · exact (hb.frozen (p := ⟨p, 2, none⟩) hp).trans f2
  · rcases hby with hby | ⟨b, off, ha', hne, hby⟩
    · exact .inl hby
    · rcases ha with ha | ⟨b2, off2, ha, hlt⟩
      · exact .inl ha
      · rw [ha'] at ha
        cases ha
        refine .inr ⟨b, off, ha', hne, fun k hk => ?_⟩
        obtain ⟨z, z0, z1, hz⟩ := hby k hk
        exact ⟨z, z0, z1, (hb.cell (p := ⟨b, off + k, none⟩) hlt).trans hz⟩

theorem Cur.bytes_lt {p : Nat} {a : Option Addr} {len cap : Nat} {w : World} (h : Cur p a len cap w) : len = 0 ∨ ∃ b off, a = some ⟨b, off, none⟩ ∧ b < w.heap.size := by
  by_cases h0 : len = 0
  · exact .inl h0
  · rcases h.bytes with hb | ⟨b, off, ha, _, hb⟩
    · exact .inl hb
    · obtain ⟨z, _, _, hz⟩ := hb 0 (by omega)
      exact .inr ⟨b, off, ha, World.block_lt_of_cell? w _ hz⟩

theorem info39 : ∃ i, Try.prog.info? 34 = some i ∧ i.zero = some (cx 0 0) ∧ i.size = 2 ∧ i.bytes = 16 := ⟨_, rfl, rfl, rfl, rfl⟩

/-- a list that was drawn -/
def DrawnL (p : Nat) (a : Option Addr) (len cap : Nat) (n : Nat) (w : World) (e : Ending) (w' : World) : Prop :=
  ∃ v xs, e = .returned v ∧ w'.ownsRow w.heap.size 34 2 v n xs ∧ AllF xs ∧ Cur p a len cap w' ∧ Kept p w w'

set_option maxHeartbeats 1000000 in
theorem drawCxs_any (p : Nat) (a : Option Addr) (len cap : Nat) (n : Nat) (hn : n ≤ 40) (w : World) (h : Cur p a len cap w) :
    Calls Try.prog 58 #[.pointer (some ⟨p, 0, none⟩), .int .i64 n] w (DrawnL p a len cap n w) := by
  have hp : p < w.heap.size := World.block_lt_of_cell? w _ h.head
  have hbl := h.bytes_lt
  obtain ⟨ti, hi1, hi2, hi3, hi4⟩ := info39
  have HI1 : Hid (Try.prog.info? 34 = some ti) := hi1
  clear hi1
  go_enter Try.func58, Try.ntmps58
  go_wp2_with fail
  go_loopw [5, 6] (fun out i wr => ∃ (k : Nat) (xs : List Value), k ≤ n ∧ i = .int .i64 k ∧ wr.ownsRow w.heap.size 34 2 out k xs ∧ AllF xs ∧ Cur p a len cap wr ∧ Kept p w wr) (fun _ i _ => n - (intOf i).toNat)
  case atStart =>
    refine ⟨0, [], by omega, rfl, World.ownsRow_lit w #[] 0 (Nat.le_refl _) (by unfold maxLen; omega) rfl, fun _ h => (by cases h), h.below (below_new _ _), Kept.of_below (below_new _ _)⟩
  case round =>
    obtain ⟨k, xs, hk, rfl, ho, hf, hc, hkp⟩ := hrel
    clear h
    by_cases hlt : k < n
    · have hd := drawCx_any p a len cap _ hc
      go_wp2_with fail
      refine hd.mono ?_
      rintro e w1 ⟨x, y, rfl, hc1, hk1⟩
      have ho1 := ho.kept hk1.grown (by
        right
        intro e
        have := (ho.lt p e).1
        omega)
      have hs1 := hk1.size
      have hs0 := hkp.size
      have hB2 := below_new w1 (.cells #[.float .f64 x, .float .f64 y] 34)
      have HC2 : Hid (Cur p a len cap (w1.alloc (.cells #[.float .f64 x, .float .f64 y] 34))) := hc1.below hB2
      have HK2 : Hid (Kept p w (w1.alloc (.cells #[.float .f64 x, .float .f64 y] 34))) := (hkp.trans hk1).trans (Kept.of_below hB2)
      have HO2 : Hid ((w1.alloc (.cells #[.float .f64 x, .float .f64 y] 34)).ownsRow w.heap.size 34 2 _ k xs) := ho1.alloc _
      clear hd hc hc1 hk1 hkp ho ho1 hB2
      have N1 : Hid (∀ (j : Nat) (u : Value), [Value.float .f64 x, .float .f64 y][j]? = some u → (w1.alloc (.cells #[.float .f64 x, .float .f64 y] 34)).cell? ((⟨w1.heap.size, 0, none⟩ : Addr).add j) = some u) := cell_two_new _ _ _ _
      have N2 : Hid (∀ (u : Value), u ∈ [Value.float .f64 x, .float .f64 y] → u.oneCell' = true) := by
        intro u hu
        simp at hu
        rcases hu with rfl | rfl <;> rfl
      have N3 : Hid (k + 1 ≤ maxLen) := by show _ ≤ _; unfold maxLen; omega
      have N4 : Hid ((k + 1) * 16 ≤ 140737488355328) := by show _ ≤ _; omega
      have N5 : Hid (w.heap.size ≤ (w1.alloc (.cells #[.float .f64 x, .float .f64 y] 34)).heap.size) := by show _ ≤ _; simp; omega
      have HF : Hid (AllF (xs ++ [Value.float .f64 x, .float .f64 y])) := by
        intro u hu
        rcases List.mem_append.1 hu with hu | hu
        · exact hf u hu
        · simp at hu
          rcases hu with rfl | rfl
          · exact ⟨_, rfl⟩
          · exact ⟨_, rfl⟩
      clear hf
      go_wp2_with (refine wpList_append_own _ rfl _ _ 24 rfl w.heap.size 34 ti (cx 0 0) 2 16 Try.underlying24 HI1.out hi2 hi3 hi4 rfl (by omega) _ k xs rfl HO2.out ⟨w1.heap.size, 0, none⟩ 1 1 [.float .f64 x, .float .f64 y] rfl rfl N1.out N2.out N3.out N4.out N5.out ?_)
      intro v' w' ho3 hg3 _
      have hr3 : ∀ q, Value.ownBlock _ = some q → w.heap.size ≤ q := fun q hq => (HO2.out.lt q hq).1
      have hB3 : Below w.heap.size (w1.alloc (.cells #[.float .f64 x, .float .f64 y] 34)) w' := (Below.refl _ _).grown hg3 N5.out hr3
      have HC3 : Hid (Cur p a len cap w') := HC2.out.belowB hB3 hp hbl
      have HK3 : Hid (Kept p w w') := ⟨hB3.os.trans HK2.out.os, hB3.tape.trans HK2.out.tape, hB3.output.trans HK2.out.output, Nat.le_trans HK2.out.size hB3.size, fun q hq hqp => (hB3.block q hq).trans (HK2.out.block q hq hqp)⟩
      have HO3 : Hid (w'.ownsRow w.heap.size 34 2 v' (k + 1) (xs ++ [Value.float .f64 x, .float .f64 y])) := ho3
      clear N1 N2 N3 N4 N5 HO2 HK2 HC2 hg3 ho3 hB3 hr3
      go_wp2_with fail
      exact ⟨⟨k + 1, _, by omega, rfl, HO3.out, HF.out, HC3.out, HK3.out⟩, by simp [intOf]; omega⟩
    · obtain rfl : k = n := by omega
      go_wp2
      go_ret
      exact ⟨_, xs, rfl, ho, hf, hc, hkp⟩

/-- the word in a float -/
def wordOf : Value → Nat
  | .float _ x => x
  | _ => 0

theorem cs_of_owns {w : World} {base n : Nat} {v : Value} {xs : List Value} (h : w.ownsRow base 34 2 v n xs) (hf : AllF xs) :
    ∃ a cap re im, v = .slice a n cap ∧ n ≤ cap ∧ cap ≤ maxLen ∧ Cs a n re im w := by
  have h' := h
  obtain ⟨hlen, hv | ⟨g, cap, cur, hv, hg, hcur, hn, hm, _, _⟩⟩ := h'
  · obtain ⟨rfl, rfl⟩ := hv
    exact ⟨none, 0, fun _ => 0, fun _ => 0, rfl, Nat.le_refl _, by unfold maxLen; omega, .inl rfl⟩
  · subst hv
    refine ⟨some ⟨g, 0, none⟩, cap, fun k => wordOf (xs.getD (k * 2) (.int .i64 0)), fun k => wordOf (xs.getD (k * 2 + 1) (.int .i64 0)), rfl, hn, hm, .inr ⟨g, 0, rfl, fun k hk => ?_⟩⟩
    have each : ∀ j, j < n * 2 → w.cell? ⟨g, j, none⟩ = some (.float .f64 (wordOf (xs.getD j (.int .i64 0)))) := by
      intro j hj
      rw [h.cellAt j hj]
      have hj2 : j < xs.length := by omega
      rw [List.getD_eq_getElem?_getD, List.getElem?_eq_getElem hj2]
      obtain ⟨x, hx⟩ := hf xs[j] (List.getElem_mem hj2)
      rw [hx]; rfl
    rw [Nat.zero_add]
    exact ⟨each (k * 2) (by omega), each (k * 2 + 1) (by omega)⟩

theorem cs_of_part {b len : Nat} {re im : Nat → Nat} {w : World} (h : PartC b len 0 re im w) : ∃ re' im', Cs (some ⟨b, 0, none⟩) len re' im' w := by
  have each : ∀ j, ∃ q : Nat × Nat, j < len → w.cell? ⟨b, j * 2, none⟩ = some (.float .f64 q.1) ∧ w.cell? ⟨b, j * 2 + 1, none⟩ = some (.float .f64 q.2) := by
    intro j
    by_cases hj : j < len
    · obtain ⟨⟨x, y, hx, hy, _⟩, _⟩ := h j hj
      exact ⟨(x, y), fun _ => ⟨hx, hy⟩⟩
    · exact ⟨(0, 0), fun h => absurd h hj⟩
  obtain ⟨q, hq⟩ := Classical.skolem.1 each
  refine ⟨fun k => (q k).1, fun k => (q k).2, .inr ⟨b, 0, rfl, fun k hk => ?_⟩⟩
  rw [Nat.zero_add]
  exact hq k hk

theorem PartC.poke {b len k : Nat} {re im : Nat → Nat} {w : World} (h : PartC b len 0 re im w) (hk : k < len) (z : Nat) : PartC b len 0 re im (w.setCell ⟨b, k * 2, none⟩ (.float .f64 z)) := by
  intro j hj
  obtain ⟨⟨x, y, hx, hy, e⟩, f0, f1⟩ := h j hj
  refine ⟨?_, by simpa using f0, by simpa using f1⟩
  by_cases hjk : j = k
  · subst hjk
    refine ⟨z, y, World.cell?_setCell_same _ _ _ hx, ?_, fun h => absurd h (Nat.not_lt_zero _)⟩
    rw [World.cell?_setCell_other _ _ _ _ (by simp)]; exact hy
  · refine ⟨x, y, ?_, ?_, fun h => absurd h (Nat.not_lt_zero _)⟩
    · rw [World.cell?_setCell_other _ _ _ _ (by simp; try omega)]; exact hx
    · rw [World.cell?_setCell_other _ _ _ _ (by simp; try omega)]; exact hy

/-- what the draw of a list to be summed gives -/
def DrawnS (w : World) (e : Ending) (w' : World) : Prop :=
  ∃ a n cap re im, e = .returned (.slice a n cap) ∧ n ≤ 4097 ∧ n ≤ cap ∧ cap ≤ maxLen ∧ Cs a n re im w' ∧ Below w.heap.size w w'

end Go.Proofs.Ytfgjooddolnifaa.Z
