/- The draws of two complex numbers, and of one with a turn. -/
import Derived.Test.YtbhomfgponhemaaZDrawCx2
import Derived.RegionTactic
import Derived.BigRegion
namespace Go.Proofs.Ytbhomfgponhemaa.Z
open Ieee Go.RowKit Fl
attribute [local go_sem] run_store_float alloc_drewN setCell_drewN shape?_drewN run_fneg

set_option maxHeartbeats 1000000 in
theorem drawAdd_any (a : Option Addr) (len cap : Nat) (w : World) (h : Bytes a len w) :
    Calls Try.prog 14 #[.slice a len cap] w fun e w' => (∃ x y z t : Nat, e = .returned (.tuple #[cx x y, cx z t])) ∧ Below w.heap.size w w' := by
  have B0 : Below w.heap.size w ((w.alloc (cellI 0 0)).alloc (cellI 0 0)) := by go_grown
  have hB := h.below B0
  have hn := new_any a len cap _ hB
  have hcn := cur_new a len cap _ hB
  have r0 : Box w.heap.size 0 0 ((w.alloc (cellI 0 0)).alloc (cellI 0 0)) := (Box.new w 0 0).below (below_one _ _)
  have r1 : Box (w.heap.size + 1) 0 0 ((w.alloc (cellI 0 0)).alloc (cellI 0 0)) := by
    have := Box.new (w.alloc (cellI 0 0)) 0 0
    simpa using this
  have hsz : ((w.alloc (cellI 0 0)).alloc (cellI 0 0)).heap.size = w.heap.size + 2 := by simp
  clear h hB
  go_enter Try.func14, Try.ntmps14
  go_wp2_with fail
  refine hn.mono ?_
  rintro e w1 ⟨x, rfl, hw1⟩
  have hc1 := hcn x
  rw [← hw1, hsz] at hc1
  have hb1 := below_one ((w.alloc (cellI 0 0)).alloc (cellI 0 0)) (.cells #[.slice a len cap, .int .i64 0, .int .i64 x] 50)
  rw [← hw1] at hb1
  have B1 := B0.trans (hb1.mono (by omega))
  have r0' := r0.below hb1
  have r1' := r1.below hb1
  rw [hsz]
  clear hn hcn hw1 hb1 r0 r1 B0 hsz
  have hd := drawCx_any (w.heap.size + 2) a len cap w1 hc1
  clear hc1
  go_wp2_with fail
  refine hd.mono ?_
  rintro e w2 ⟨x1, y1, rfl, hc2, hk2⟩
  have B2 := B1.trans (hk2.below (B := w.heap.size) (by omega) B1.size)
  have r0 := r0'.kept hk2 (by omega)
  have r1 := r1'.kept hk2 (by omega)
  clear hd hk2 r0' r1' B1
  have hp2 : w.heap.size + 2 < w2.heap.size := World.block_lt_of_cell? w2 _ hc2.head
  have hb3 := below_one w2 (cellI x1 y1)
  have r2 := Box.new w2 x1 y1
  have r0' := r0.below hb3
  have r1' := r1.below hb3
  have hc3 := hc2.below hb3
  have B3 := B2.trans (hb3.mono (by omega))
  clear hc2 r0 r1 hb3 B2
  have hd := drawCx_any (w.heap.size + 2) a len cap _ hc3
  go_wp2_with fail
  refine hd.mono ?_
  rintro e w3 ⟨x2, y2, rfl, hc4, hk4⟩
  have B4 := B3.trans (hk4.below (B := w.heap.size) (by omega) B3.size)
  have r0 := r0'.kept hk4 (by omega)
  have r1 := r1'.kept hk4 (by omega)
  have r3 := r2.kept hk4 (by omega)
  clear hd hk4 r0' r1' r2 hc3 hc4 B3
  have z0 := r0.lt
  have z1 := r1.lt
  have z2 := r3.lt
  obtain ⟨a0, a1, a2, a3⟩ := r0
  obtain ⟨b0, b1, b2, b3⟩ := r1
  obtain ⟨d0, d1, d2, d3⟩ := r3
  have n1 : ¬ w.heap.size = w2.heap.size := by omega
  have n2 : ¬ w.heap.size + 1 = w2.heap.size := by omega
  have n3 : ¬ w.heap.size = w3.heap.size := by omega
  have n4 : ¬ w.heap.size + 1 = w3.heap.size := by omega
  go_wp2_with fail
  go_region
  all_goals
    go_wp2_with fail
    refine bodyPost_ret (v := .tuple #[cx x1 y1, cx x2 y2]) (by simp [results, Try.results14, go_sem, a0, a1, b0, b1, z0, z1]) rfl ⟨⟨_, _, _, _, rfl⟩, ?_⟩
    go_grown

set_option maxHeartbeats 1000000 in
theorem drawMul_any (a : Option Addr) (len cap : Nat) (w : World) (h : Bytes a len w) :
    Calls Try.prog 6 #[.slice a len cap] w fun e w' => (∃ x y z t : Nat, e = .returned (.tuple #[cx x y, cx z t])) ∧ Below w.heap.size w w' := by
  have B0 : Below w.heap.size w ((w.alloc (cellI 0 0)).alloc (cellI 0 0)) := by go_grown
  have hd := drawAdd_any a len cap _ (h.below B0)
  have r0 : Box w.heap.size 0 0 ((w.alloc (cellI 0 0)).alloc (cellI 0 0)) := (Box.new w 0 0).below (below_one _ _)
  have r1 : Box (w.heap.size + 1) 0 0 ((w.alloc (cellI 0 0)).alloc (cellI 0 0)) := by
    have := Box.new (w.alloc (cellI 0 0)) 0 0
    simpa using this
  clear h
  go_enter Try.func6, Try.ntmps6
  go_wp2_with fail
  refine hd.mono ?_
  rintro e w1 ⟨⟨x1, y1, x2, y2, rfl⟩, hb1⟩
  have r0' := r0.below hb1
  have r1' := r1.below hb1
  have B1 := B0.trans (hb1.mono (by simp; try omega))
  clear hd hb1 r0 r1 B0
  obtain ⟨a0, a1, a2, a3⟩ := r0'
  obtain ⟨b0, b1, b2, b3⟩ := r1'
  go_wp2_with fail
  refine bodyPost_ret (v := .tuple #[cx x1 y1, cx x2 y2]) (by simp [results, Try.results6, go_sem, a0, a1, b0, b1]) rfl ⟨⟨_, _, _, _, rfl⟩, ?_⟩
  go_grown

theorem odd_any (p : Nat) (a : Option Addr) (len cap : Nat) (w : World) (h : Cur p a len cap w) :
    Calls Try.prog 23 #[.pointer (some ⟨p, 0, none⟩)] w (DrawnI p a len cap w) := by
  have hpw : p < w.heap.size := World.block_lt_of_cell? w _ h.head
  have hcT := h.below (below_one w (.cells otab 2))
  have hb5 := below_any p a len cap _ hcT 10 (by omega) (by omega)
  clear h hcT
  go_enter Try.func23, Try.ntmps23
  go_wp2_with fail
  refine hb5.mono ?_
  rintro e w3 ⟨y, rfl, y0', y1', hc3, hk3⟩
  obtain ⟨k, rfl⟩ : ∃ k : Nat, y = k := ⟨y.toNat, by omega⟩
  have hk20 : k < 10 := by omega
  obtain ⟨n, hn2⟩ := otab_at k hk20
  have hcell : w3.cell? ⟨w.heap.size, k, none⟩ = some (.int .i64 n) := hk3.cell (by show w.heap.size ≠ p; omega) (by rw [otab_cell w k, hn2])
  have hkt3 := (Kept.of_below (p := p) (below_one w (.cells otab 2))).trans hk3
  clear hb5 hk3 hn2 hpw y0' y1'
  go_wp2_with fail
  go_ret
  exact ⟨n, rfl, hc3, hkt3⟩

set_option maxHeartbeats 1000000 in
theorem drawTurn_any (a : Option Addr) (len cap : Nat) (w : World) (h : Bytes a len w) :
    Calls Try.prog 9 #[.slice a len cap] w fun e w' => (∃ (x y : Nat) (k : Int), e = .returned (.tuple #[cx x y, .int .i64 k])) ∧ Below w.heap.size w w' := by
  have B0 : Below w.heap.size w (w.alloc (cellI 0 0)) := below_one _ _
  have hB := h.below B0
  have hn := new_any a len cap _ hB
  have hcn := cur_new a len cap _ hB
  have r0 : Box w.heap.size 0 0 (w.alloc (cellI 0 0)) := Box.new w 0 0
  have hsz : (w.alloc (cellI 0 0)).heap.size = w.heap.size + 1 := by simp
  clear h hB
  go_enter Try.func9, Try.ntmps9
  go_wp2_with fail
  refine hn.mono ?_
  rintro e w1 ⟨x, rfl, hw1⟩
  have hc1 := hcn x
  rw [← hw1, hsz] at hc1
  have hb1 := below_one (w.alloc (cellI 0 0)) (.cells #[.slice a len cap, .int .i64 0, .int .i64 x] 50)
  rw [← hw1] at hb1
  have B1 := B0.trans (hb1.mono (by omega))
  have r0' := r0.below hb1
  rw [hsz]
  clear hn hcn hw1 hb1 r0 B0 hsz
  have hd := drawCx_any (w.heap.size + 1) a len cap w1 hc1
  clear hc1
  go_wp2_with fail
  refine hd.mono ?_
  rintro e w2 ⟨x1, y1, rfl, hc2, hk2⟩
  have B2 := B1.trans (hk2.below (B := w.heap.size) (by omega) B1.size)
  have r0 := r0'.kept hk2 (by omega)
  clear hd hk2 r0' B1
  have hp2 : w.heap.size + 1 < w2.heap.size := World.block_lt_of_cell? w2 _ hc2.head
  have hb3 := below_one w2 (cellI x1 y1)
  have r2 := Box.new w2 x1 y1
  have r0' := r0.below hb3
  have hc3 := hc2.below hb3
  have B3 := B2.trans (hb3.mono (by omega))
  clear hc2 r0 hb3 B2
  have hd := from_any (w.heap.size + 1) a len cap _ hc3 (-9) 9 (by omega) (by omega) (by omega)
  go_wp2_with fail
  refine hd.mono ?_
  rintro e w3 ⟨k, rfl, k0, k1, hc4, hk4⟩
  have B4 := B3.trans (hk4.below (B := w.heap.size) (by omega) B3.size)
  have r0 := r0'.kept hk4 (by omega)
  have r3 := r2.kept hk4 (by omega)
  clear hd hk4 r0' r2 hc3 B3 k0 k1
  have ho := once_any (w.heap.size + 1) a len cap w3 hc4 12 (by omega) (by omega)
  clear hc4
  go_wp2_with fail
  refine ho.mono ?_
  rintro e w4 ⟨q, rfl, hc5, hk5⟩
  have B5 := B4.trans (hk5.below (B := w.heap.size) (by omega) B4.size)
  have r0' := r0.kept hk5 (by omega)
  have r3' := r3.kept hk5 (by omega)
  clear ho hk5 r0 r3 B4
  cases q
  · obtain ⟨a0, a1, a2, a3⟩ := r0'
    obtain ⟨d0, d1, d2, d3⟩ := r3'
    clear hc5
    go_wp2_with fail
    refine bodyPost_ret (v := .tuple #[cx x1 y1, .int .i64 k]) (by simp [results, Try.results9, go_sem, a0, a1]) rfl ⟨⟨_, _, _, rfl⟩, ?_⟩
    go_grown
  · have ho := odd_any (w.heap.size + 1) a len cap w4 hc5
    clear hc5
    go_wp2_with fail
    refine ho.mono ?_
    rintro e w5 ⟨k2, rfl, hc6, hk6⟩
    have B6 := B5.trans (hk6.below (B := w.heap.size) (by omega) B5.size)
    have r0 := r0'.kept hk6 (by omega)
    have r3 := r3'.kept hk6 (by omega)
    clear ho hk6 hc6 r0' r3' B5
    obtain ⟨a0, a1, a2, a3⟩ := r0
    obtain ⟨d0, d1, d2, d3⟩ := r3
    go_wp2_with fail
    refine bodyPost_ret (v := .tuple #[cx x1 y1, .int .i64 k2]) (by simp [results, Try.results9, go_sem, a0, a1]) rfl ⟨⟨_, _, _, rfl⟩, ?_⟩
    go_grown

end Go.Proofs.Ytbhomfgponhemaa.Z
