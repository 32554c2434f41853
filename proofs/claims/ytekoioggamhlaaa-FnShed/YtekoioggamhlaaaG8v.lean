/- What lies around a place is visited: a function value is called for each offset that leads to a spot of the grid. -/
import Derived.Test.YtekoioggamhlaaaG8a
namespace Go.Proofs.Ytekoioggamhlaaa
open Go.RowKit

/-- all blocks that there were, but those of S, are as they were -/
structure KpS (S : Nat → Prop) (w w' : World) : Prop where
  os : w'.os = w.os
  tape : w'.tape = w.tape
  output : w'.output = w.output
  size : w.heap.size ≤ w'.heap.size
  block : ∀ b, b < w.heap.size → ¬ S b → w'.heap[b]? = w.heap[b]?
theorem KpS.of_below {S : Nat → Prop} {w w' : World} (h : Below w.heap.size w w') : KpS S w w' := ⟨h.os, h.tape, h.output, h.size, fun k hk _ => h.block k hk⟩
theorem KpS.refl (S : Nat → Prop) (w : World) : KpS S w w := KpS.of_below (Below.refl _ _)
theorem KpS.next {S : Nat → Prop} {a b c : World} (h : KpS S a b) (k : Below b.heap.size b c) : KpS S a c :=
  ⟨k.os.trans h.os, k.tape.trans h.tape, k.output.trans h.output, Nat.le_trans h.size k.size, fun j hj hp => (k.block j (Nat.lt_of_lt_of_le hj h.size)).trans (h.block j hj hp)⟩
theorem KpS.trans {S : Nat → Prop} {a b c : World} (h : KpS S a b) (k : KpS S b c) : KpS S a c :=
  ⟨k.os.trans h.os, k.tape.trans h.tape, k.output.trans h.output, Nat.le_trans h.size k.size, fun j hj hp => (k.block j (Nat.lt_of_lt_of_le hj h.size) hp).trans (h.block j hj hp)⟩
theorem KpS.after {S : Nat → Prop} {a b c : World} (h : Below a.heap.size a b) (k : KpS S b c) : KpS S a c := (KpS.of_below h).trans k
theorem KpS.setCell {S : Nat → Prop} {w w' : World} (h : KpS S w w') {a : Addr} (hp : S a.block) (v : Value) : KpS S w (w'.setCell a v) := by
  have k : Kept a.block w' (w'.setCell a v) := (Kept.refl _ _).setCell rfl v
  exact ⟨k.os.trans h.os, k.tape.trans h.tape, k.output.trans h.output, Nat.le_trans h.size k.size, fun j hj hs => (k.block j (Nat.lt_of_lt_of_le hj h.size) (fun e => hs (e ▸ hp))).trans (h.block j hj hs)⟩
theorem KpS.drew {S : Nat → Prop} {w w' : World} (h : KpS S w w') : KpS S w w'.drew := ⟨h.os, h.tape, h.output, h.size, h.block⟩
theorem KpS.below {S : Nat → Prop} {B : Nat} {w w' : World} (h : KpS S w w') (h1 : ∀ b, S b → B ≤ b) (h2 : B ≤ w.heap.size) : Below B w w' :=
  ⟨h.os, h.tape, h.output, h.size, fun k hk => h.block k (Nat.lt_of_lt_of_le hk h2) (fun hs => Nat.lt_irrefl _ (Nat.lt_of_lt_of_le hk (h1 k hs)))⟩
/-- as a block of its own -/
theorem KpS.kp {S : Nat → Prop} {b : Nat} {w w' : World} (h : KpS S w w') (hs : ¬ S b) (hb : b < w.heap.size) : w'.heap[b]? = w.heap[b]? := h.block b hb hs
theorem KpS.bx {S : Nat → Prop} {b : Nat} {vs : List Value} {w w' : World} (h : KpS S w w') (hs : ¬ S b) (hb : b < w.heap.size) (hx : Bx b vs w) : Bx b vs w' := fun j v hv => by
  have e := h.block b hb hs
  have q := hx j v hv
  refine ⟨?_, ?_⟩
  · rw [World.cell?_of_block (w := w) (a := ⟨b, j, none⟩) e]; exact q.1
  · rw [World.frozen?_of_block (w := w) (a := ⟨b, j, none⟩) e]; exact q.2
theorem KpS.px {S : Nat → Prop} {a : Option Addr} {n : Nat} {f : Nat → Int} {w w' : World} (h : KpS S w w') (hs : ∀ b off, a = some ⟨b, off, none⟩ → ¬ S b) (hx : Px a n f w) : Px a n f w' := by
  rcases hx with hx | ⟨b, off, ha, hx⟩
  · exact .inl hx
  · refine .inr ⟨b, off, ha, fun k hk => ?_⟩
    have q := hx k hk
    rw [World.cell?_of_block (w := w) (a := ⟨b, off + k, none⟩) (h.block b (World.block_lt_of_cell? w _ q) (hs b off ha))]
    exact q

set_option maxRecDepth 100000 in
set_option maxHeartbeats 1000000 in
theorem visitAround_any (W H p : Int) (a : Option Addr) (m cap : Nat) (g : Nat → Int) (hm : m ≤ 1048576) (hW : 1 ≤ W) (hW' : W ≤ 64) (hH : 1 ≤ H) (hH' : H ≤ 64) (hp : 0 ≤ p) (hp' : p < 4096)
    (hg : ∀ j, j < m * 2 → -64 ≤ g j ∧ g j ≤ 64) (K : Nat) (hK : ∀ ar w, Sem.run Try.prog (callFunc K ar) w = .ok (.enter K ar) w) (cp : Array Value) (S : Nat → Prop) (w : World) (hS : ∀ b, S b → b < w.heap.size) (Inv : World → Nat → World → Prop)
    (h0 : ∀ wE, Below w.heap.size w wE → Inv wE 0 wE)
    (hk : ∀ wE k wr, Inv wE k wr → KpS S wE wr)
    (hx : ∀ wE k wr, Below w.heap.size w wE → Inv wE k wr → Px a (m * 2) g wr)
    (hn : ∀ wE k wr w', Inv wE k wr → Below wr.heap.size wr w' → Inv wE k w')
    (hs : ∀ wE k wr, k < m → hasB W H (p % W + g (k * 2)) (p / W + g (k * 2 + 1)) = false → Inv wE k wr → Inv wE (k + 1) wr)
    (hv : ∀ wE k wr, k < m → hasB W H (p % W + g (k * 2)) (p / W + g (k * 2 + 1)) = true → Below w.heap.size w wE → Inv wE k wr →
      Calls Try.prog K (#[.int .i64 k, .int .i64 ((p / W + g (k * 2 + 1)) * W + (p % W + g (k * 2)))] ++ cp) wr fun e w' => e = .returned (.tuple #[]) ∧ Inv wE (k + 1) w') :
    Calls Try.prog 40 #[gv W H, .int .i64 p, .slice a m cap, .func (.func K) #[] cp] w fun e w' => e = .returned (.tuple #[]) ∧ ∃ wE, Below w.heap.size w wE ∧ Inv wE m w' := by
  have cS := fun w' => spotAt_any W H p hW hW' hp hp' w'
  have hx0 : 0 ≤ p % W := Int.emod_nonneg _ (by omega)
  have hx1 : p % W < W := Int.emod_lt_of_pos _ (by omega)
  have hy0 : 0 ≤ p / W := Int.ediv_nonneg hp (by omega)
  have hy1 : p / W ≤ p := Int.ediv_le_self W hp
  have HG := hide hg
  have HV := hide hv
  have HX := hide hx
  have HN := hide hn
  have HK := hide hk
  have HZ := hide hs
  have H0 := hide h0
  clear hg hv hx hn hk hs h0
  generalize p % W = X at *
  generalize p / W = Y at *
  have HS0 := hide ((St.start w).box [.int .i64 W, .int .i64 H] 47)
  go_enter Try.func40, Try.ntmps40
  go_wp2_with fail
  refine (cS _).mono ?_
  rintro e w1 ⟨rfl, hb⟩
  have HS1 := hide ((HS0.out.next hb).box [.int .i64 X, .int .i64 Y] 82)
  have hz1 := (HS0.out.next hb).below.size
  have hz2 := ((HS0.out.next hb).ltB 0 rfl).2
  clear hb cS HS0
  go_wp2_with fail
  have hbE : Below w.heap.size w (w1.alloc (.cells #[.int .i64 X, .int .i64 Y] 82)) := HS1.out.below
  have hzE : (w1.alloc (.cells #[.int .i64 X, .int .i64 Y] 82)).heap.size = w1.heap.size + 1 := by simp
  have H00 := hide (H0.out _ hbE)
  have HBE := hide hbE
  clear hbE H0
  generalize w1.alloc (.cells #[.int .i64 X, .int .i64 Y] 82) = wE at *
  have HZE := hide hzE
  clear hzE
  go_loopw [17] (fun i wr => ∃ k : Nat, k ≤ m ∧ i = .int .i64 k ∧ Inv wE k wr) (fun i _ => m - (intOf i).toNat)
  case atStart => exact ⟨0, by omega, rfl, H00.out⟩
  case round =>
    obtain ⟨k, hk, rfl, hI⟩ := hrel
    clear H00
    have HI := hide hI
    clear hI
    by_cases hlt : k < m
    · have HP := hide (HX.out _ _ _ HBE.out HI.out)
      obtain ⟨g0, g0'⟩ := HG.out (k * 2) (by omega)
      obtain ⟨g1, g1'⟩ := HG.out (k * 2 + 1) (by omega)
      obtain ⟨b, off, rfl, hbl, c0, c1⟩ := HP.out.atSpot2 hlt
      have HVk := hide (fun wr hh hi => HV.out wE k wr hlt hh HBE.out hi)
      have HZk := hide (fun wr hh hi => HZ.out wE k wr hlt hh hi)
      have hkk := HK.out _ _ _ HI.out
      obtain ⟨q0, q1⟩ : wr.cell? ⟨w.heap.size, 0, none⟩ = some (.int .i64 W) ∧ wr.cell? ⟨w.heap.size, 1, none⟩ = some (.int .i64 H) := by
        have := hkk.bx (b := w.heap.size) (fun h => Nat.lt_irrefl _ (hS _ h)) (by rw [HZE.out]; omega) (HS1.out.bx _ (List.mem_cons_of_mem _ (List.mem_cons_self ..)))
        exact ⟨(this 0 _ rfl).1, (this 1 _ rfl).1⟩
      obtain ⟨q2, q3⟩ : wr.cell? ⟨w1.heap.size, 0, none⟩ = some (.int .i64 X) ∧ wr.cell? ⟨w1.heap.size, 1, none⟩ = some (.int .i64 Y) := by
        have := hkk.bx (b := w1.heap.size) (fun h => by have := hS _ h; omega) (by rw [HZE.out]; omega) (HS1.out.bx _ (List.mem_cons_self ..))
        exact ⟨(this 0 _ rfl).1, (this 1 _ rfl).1⟩
      have hwr : w1.heap.size < wr.heap.size := by have := hkk.size; rw [HZE.out] at this; omega
      have hwr0 : w.heap.size < wr.heap.size := by omega
      clear HP HG HV HZ HX hkk
      generalize g (k * 2) = gx at *
      generalize g (k * 2 + 1) = gy at *
      have HS2 := hide (((St.start wr).box [.int .i64 gx, .int .i64 gy] 82).box' [.int .i64 (X + gx), .int .i64 (Y + gy)] 82 (b := wr.heap.size + 1) (by simp))
      have cH := fun w' => has_any W H (X + gx) (Y + gy) hW hW' hH hH' w'
      cases hq : hasB W H (X + gx) (Y + gy)
      · rw [hq] at cH
        have HI1 := hide (HZk.out wr hq HI.out)
        clear HVk HZk hq
        go_wp2_with fail
        refine (cH _).mono ?_
        rintro e w2 ⟨rfl, hb⟩
        have HI2 := hide (HN.out _ _ _ _ HI1.out (HS2.out.next hb).below)
        clear hb
        go_wp2_with fail
        exact ⟨⟨k + 1, by omega, rfl, HI2.out⟩, by simp [intOf]; omega⟩
      · rw [hq] at cH
        obtain ⟨⟨b1, b2⟩, b3, b4⟩ := hasB_iff.1 hq
        have HV2 := hide (fun wr hi => HVk.out wr hq hi)
        clear HVk HZk hq
        have cP := fun w' => placeOf_any W H (X + gx) (Y + gy) hW hW' b1 (by omega) b3 (by omega) w'
        go_wp2_with fail
        refine (cH _).mono ?_
        rintro e w2 ⟨rfl, hb⟩
        have HS3 := hide (HS2.out.next hb)
        obtain ⟨r0, r1⟩ : w2.cell? ⟨wr.heap.size + 1, 0, none⟩ = some (.int .i64 (X + gx)) ∧ w2.cell? ⟨wr.heap.size + 1, 1, none⟩ = some (.int .i64 (Y + gy)) := ⟨HS3.out.cell 0 rfl 0 rfl, HS3.out.cell 0 rfl 1 rfl⟩
        obtain ⟨r2, r3⟩ : w2.cell? ⟨w.heap.size, 0, none⟩ = some (.int .i64 W) ∧ w2.cell? ⟨w.heap.size, 1, none⟩ = some (.int .i64 H) := by
          have hbl := HS3.out.below
          refine ⟨?_, ?_⟩
          · rw [hbl.cell (p := ⟨w.heap.size, 0, none⟩) (by show w.heap.size < _; omega)]; exact q0
          · rw [hbl.cell (p := ⟨w.heap.size, 1, none⟩) (by show w.heap.size < _; omega)]; exact q1
        clear hb cH HS2 c0 c1 q0 q1 q2 q3
        go_wp2_with fail
        refine (cP _).mono ?_
        rintro e w3 ⟨rfl, hb⟩
        have HI3 := hide (HN.out _ _ _ _ HI.out (HS3.out.next hb).below)
        clear hb
        go_wp2_with fail
        refine (HV2.out _ HI3.out).mono ?_
        rintro e w4 ⟨rfl, hi⟩
        have HI4 := hide hi
        clear hi
        go_wp2_with fail
        exact ⟨⟨k + 1, by omega, rfl, HI4.out⟩, by simp [intOf]; omega⟩
    · obtain rfl : k = m := by omega
      go_wp2_with fail
      go_end0
      exact ⟨rfl, wE, HBE.out, HI.out⟩

end Go.Proofs.Ytekoioggamhlaaa
