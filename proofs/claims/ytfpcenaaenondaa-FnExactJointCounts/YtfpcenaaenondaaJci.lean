/- Pairs are compared and sorted. -/
import Derived.Test.YtfpcenaaenondaaCor
import Derived.Test.YtfpcenaaenondaaJcn
import Derived.Test.YtfpcenaaenondaaJnl
import Derived.Test.YtfpcenaaenondaaSrf
import Derived.Test.YtfpcenaaenondaaHom
import Derived.Deep.RegionHeld3
namespace Go.Proofs.Ytfpcenaaenondaa
open Go.RowKit Go.Shelf Go.Sort

/-- what came out of a world by draws and new blocks alone -/
def Gn (W w' : World) : Prop := ∃ q os, w' = Go.Sort.grow (W.drewN q) os
theorem Gn.refl (W : World) : Gn W W := ⟨0, #[], by simp [World.drewN]⟩
theorem Gn.alloc {W w' : World} (h : Gn W w') (o : Obj) : Gn W (w'.alloc o) := by
  obtain ⟨q, os, rfl⟩ := h
  exact ⟨q, os ++ #[o], by rw [alloc_eq_grow, grow_grow]⟩
theorem Gn.drew {W w' : World} (h : Gn W w') : Gn W w'.drew := by
  obtain ⟨q, os, rfl⟩ := h
  exact ⟨q + 1, os, rfl⟩
theorem Gn.below {W w' : World} (h : Gn W w') : Below W.heap.size W w' := by
  obtain ⟨q, os, rfl⟩ := h
  refine ⟨rfl, rfl, rfl, ?_, fun k hk => ?_⟩
  · show W.heap.size ≤ (W.heap ++ os).size
    simp
  · show (W.heap ++ os)[k]? = _
    rw [Array.getElem?_append_left hk]

/-- how two pairs stand to each other -/
def cfJ (x y : Int × Int) : Int := if cmpI x.1 y.1 = 0 then cmpI x.2 y.2 else cmpI x.1 y.1
theorem cfJ_neg (x y : Int × Int) : cfJ x y < 0 ↔ (x.1 < y.1 ∨ (x.1 = y.1 ∧ x.2 < y.2)) := by
  unfold cfJ cmpI
  split <;> (repeat' split) <;> omega
theorem cfJ_zero (x y : Int × Int) : cfJ x y = 0 ↔ (x.1 = y.1 ∧ x.2 = y.2) := by
  unfold cfJ cmpI
  split <;> (repeat' split) <;> omega

theorem cmpOr_eq (b cap : Nat) (x y z : Int) (hz : z = if x = 0 then y else x) (w : World) (h0 : w.cell? ⟨b, 0, none⟩ = some (.int .i64 x)) (h1 : w.cell? ⟨b, 1, none⟩ = some (.int .i64 y)) :
    Calls Try.prog 29 #[.slice (some ⟨b, 0, none⟩) 2 cap] w fun e w' => e = .returned (.int .i64 z) ∧ w' = w := by subst hz; exact cmpOr_any b cap x y w h0 h1

set_option maxRecDepth 100000 in
set_option maxHeartbeats 2000000 in
theorem comparePairs_gn (a b c a' b' c' : Int) (W : World) :
    Calls Try.prog 19 #[vJoint a b c, vJoint a' b' c'] W fun e w' => e = .returned (.int .i64 (cfJ (a, b) (a', b'))) ∧ Gn W w' := by
  have c1 := cmpCompare_any a a'
  have c2 := cmpCompare_any b b'
  obtain ⟨R, hR⟩ : ∃ R, R = cfJ (a, b) (a', b') := ⟨_, rfl⟩
  have cO0 := fun q cap w' h0 h1 => cmpOr_eq q cap (cmpI a a') (cmpI b b') R hR w' h0 h1
  obtain ⟨w, hw⟩ : ∃ w, w = (W.alloc (.cells #[.int .i64 a, .int .i64 b, .int .i64 c] 38)).alloc (.cells #[.int .i64 a', .int .i64 b', .int .i64 c'] 38) := ⟨_, rfl⟩
  have i0 : w.cell? ⟨W.heap.size, 0, none⟩ = some (.int .i64 a) := by rw [hw]; simp [go_sem]
  have i1 : w.cell? ⟨W.heap.size, 1, none⟩ = some (.int .i64 b) := by rw [hw]; simp [go_sem]
  have j0 : w.cell? ⟨W.heap.size + 1, 0, none⟩ = some (.int .i64 a') := by rw [hw]; simp [go_sem]
  have j1 : w.cell? ⟨W.heap.size + 1, 1, none⟩ = some (.int .i64 b') := by rw [hw]; simp [go_sem]
  have HWG : Hid (Gn W w) := by show Gn _ _; rw [hw]; exact ((Gn.refl W).alloc _).alloc _
  have hw' := hw.symm
  clear hw
  have HR := hide hR
  clear hR
  generalize cmpI a a' = X at *
  generalize cmpI b b' = Y at *
  have cO := fun w' h0 h1 => cO0 w.heap.size 2 w' h0 h1
  have k0 : ((w.alloc (.cells #[.int .i64 X, .int .i64 Y] 3)).drew).cell? ⟨w.heap.size, 0, none⟩ = some (.int .i64 X) := by simp [go_sem]
  have k1 : ((w.alloc (.cells #[.int .i64 X, .int .i64 Y] 3)).drew).cell? ⟨w.heap.size, 1, none⟩ = some (.int .i64 Y) := by simp [go_sem]
  have HBF : Hid (Gn W ((w.alloc (.cells #[.int .i64 X, .int .i64 Y] 3)).drew)) := (HWG.out.alloc _).drew
  have SKd : Hid (w.drew.cell? ⟨W.heap.size, 0, none⟩ = some (.int .i64 a) ∧ w.drew.cell? ⟨W.heap.size, 1, none⟩ = some (.int .i64 b) ∧ w.drew.cell? ⟨W.heap.size + 1, 0, none⟩ = some (.int .i64 a') ∧ w.drew.cell? ⟨W.heap.size + 1, 1, none⟩ = some (.int .i64 b')) := ⟨i0, i1, j0, j1⟩
  have SK1 : Hid (((w.alloc (.cells #[.int .i64 X, .int .i64 Y] 3)).drew).cell? ⟨W.heap.size, 0, none⟩ = some (.int .i64 a) ∧ ((w.alloc (.cells #[.int .i64 X, .int .i64 Y] 3)).drew).cell? ⟨W.heap.size, 1, none⟩ = some (.int .i64 b) ∧ ((w.alloc (.cells #[.int .i64 X, .int .i64 Y] 3)).drew).cell? ⟨W.heap.size + 1, 0, none⟩ = some (.int .i64 a') ∧ ((w.alloc (.cells #[.int .i64 X, .int .i64 Y] 3)).drew).cell? ⟨W.heap.size + 1, 1, none⟩ = some (.int .i64 b')) :=
    ⟨((bnew w _).drew.cell (p := ⟨W.heap.size, 0, none⟩) (World.block_lt_of_cell? w _ i0)).trans i0, ((bnew w _).drew.cell (p := ⟨W.heap.size, 1, none⟩) (World.block_lt_of_cell? w _ i1)).trans i1, ((bnew w _).drew.cell (p := ⟨W.heap.size + 1, 0, none⟩) (World.block_lt_of_cell? w _ j0)).trans j0, ((bnew w _).drew.cell (p := ⟨W.heap.size + 1, 1, none⟩) (World.block_lt_of_cell? w _ j1)).trans j1⟩
  clear cO0
  go_enter Try.func19, Try.ntmps19
  go_upto_region 1 with fail
  go_region_held (fun (w' : World) => w'.cell? ⟨W.heap.size, 0, none⟩ = some (.int .i64 a) ∧ w'.cell? ⟨W.heap.size, 1, none⟩ = some (.int .i64 b) ∧ w'.cell? ⟨W.heap.size + 1, 0, none⟩ = some (.int .i64 a') ∧ w'.cell? ⟨W.heap.size + 1, 1, none⟩ = some (.int .i64 b'))
    (first | with_reducible exact SKd.out | with_reducible exact SK1.out)
    (first | (go_at_call 30; (with_reducible refine (c1 _).mono ?_); rintro e w1 ⟨rfl, rfl⟩) | (go_at_call 30; (with_reducible refine (c2 _).mono ?_); rintro e w1 ⟨rfl, rfl⟩) | (go_at_call 29; (with_reducible refine (cO _ k0 k1).mono ?_); rintro e w1 ⟨rfl, rfl⟩))
  all_goals
    clear c1 c2 cO k0 k1 i0 i1 j0 j1
    go_wp2_with fail
    go_ret
    exact ⟨by rw [← HR.out]; rfl, HBF.out⟩

/-- a pair in memory, counted once -/
def encJ (x : Int × Int) : List Value := [.int .i64 x.1, .int .i64 x.2, .int .i64 1]
theorem swoJ : SWO (ltOf cfJ) where
  irrefl x := by unfold ltOf; rw [decide_eq_false]; rw [cfJ_neg]; omega
  trans x y z h1 h2 := by
    unfold ltOf at *
    rw [decide_eq_true_eq, cfJ_neg] at *
    omega
  ntrans x y z h1 h2 := by
    unfold ltOf at *
    rw [decide_eq_false_iff_not, cfJ_neg] at *
    omega
theorem heapK {w : World} {g n : Nat} {os : Array Obj} {d : Array (Int × Int)} (k : Nat) (hk : k < w.heap.size) (hne : k ≠ g) : (sortWorldK encJ 3 w g 0 n d os).heap[k]? = w.heap[k]? := by
  unfold sortWorldK putRowK
  show (Go.Sort.grow (putRow id (Go.Sort.ahead w n) g 0 (flatK encJ 3 d)) os).heap[k]? = _
  rw [heap_grow_old _ _ (by simpa using hk)]
  have : g ≠ k := fun e => hne e.symm
  simp [putRow, mapBlock, Go.Sort.ahead, Array.getElem?_modify, this]

set_option maxHeartbeats 1000000 in
theorem sortF_any (g cap : Nat) (d : Array (Int × Int)) (w : World) (hH : HoldsK encJ 3 w g 0 d) (hg : g < w.heap.size) (hd : d.size ≤ 1048576) :
    Calls Try.prog 18 #[.slice (some ⟨g, 0, none⟩) d.size cap, .func (.func 19) #[] #[]] w fun e w' => e = .returned (.tuple #[]) ∧
      ∃ d' : Array (Int × Int), d'.toList.Perm d.toList ∧ d'.toList.Pairwise leP ∧ HoldsK encJ 3 w' g 0 d' ∧ Kept g w w' := by
  have eg : ∀ args w, (callFunc 19 args).run Try.prog w = .ok (.enter 19 args) w := fun _ _ => rfl
  have hcmp : CmpLays Try.prog 19 #[] encJ 3 cfJ g 0 d.size w := fun _ _ _ _ x y => (comparePairs_gn x.1 x.2 1 y.1 y.2 1 _).mono fun _ _ ⟨h1, q, os, h2⟩ => ⟨h1, q, os, h2⟩
  have c := AnyQ.slices_SortFunc sortF 3 Try.isAgg38 Try.sizeOf38 encJ (fun _ => rfl) (fun x v hv => by simp [encJ] at hv; rcases hv with rfl | rfl | rfl <;> rfl) cfJ swoJ 19 #[] g 0 cap d w eg hcmp hH hg (by omega)
  refine Calls.mono (P := Try.prog) (f := 18) c ?_
  rintro e w' ⟨rfl, d', n, os, ⟨hs, -, hp⟩, ho, rfl⟩
  refine ⟨rfl, d', ?_, ?_, holdsK_sortWorldK_c encJ 3 w g 0 d d' n os hH hg hs, ?_⟩
  · have e1 : d'.extract 0 d.size = d' := by rw [← hs]; simp
    have e2 : d.extract 0 d.size = d := by simp
    rw [e1, e2] at hp
    exact hp
  · rw [List.pairwise_iff_getElem]
    intro i j hi hj hij
    have h1 := ho i j (Nat.zero_le _) hij (by rw [← hs]; simpa using hj)
    rw [getElem!_pos d' j (by simpa using hj), getElem!_pos d' i (by simpa using hi)] at h1
    unfold ltOf at h1
    rw [decide_eq_false_iff_not, cfJ_neg] at h1
    simp only [Array.getElem_toList]
    unfold leP
    omega
  · refine ⟨rfl, rfl, rfl, size_sortWorldK_c encJ 3 w g 0 n d' os, fun k hk hne => heapK k hk hne⟩

end Go.Proofs.Ytfpcenaaenondaa
