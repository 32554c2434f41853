/- How often each tone comes: the program. -/
import Derived.Test.YtfbjjfpcgpkhiaaHgs
import Derived.Test.YtfbjjfpcgpkhiaaCln
import Derived.Deep.WholeRow
import Derived.Deep.MidRow
namespace Go.Proofs.Ytfbjjfpcgpkhiaa
open Go.RowKit

/-- the tally as an array -/
def hsA (f : Nat → Int) (k : Nat) : Array Value := ((List.range 256).map fun v => Value.int .i64 (hst f k v)).toArray

set_option maxRecDepth 100000 in
theorem tal_info : (Try.prog.info? 48).map (fun i => (i.zero, i.size)) = some (some (.agg (Array.replicate 256 (.int .i64 0))), 256) := by kernel_rfl
theorem tal_under : Try.prog.underlying 48 = some (.array 256 2) := by kernel_rfl
theorem hsA_size (f : Nat → Int) (k : Nat) : (hsA f k).size = 256 := by simp [hsA]
theorem hsA_at (f : Nat → Int) (k v : Nat) (h : v < 256) : (hsA f k)[v]? = some (.int .i64 (hst f k v)) := by
  simp [hsA, h]
theorem hsA_one (f : Nat → Int) (k : Nat) : (hsA f k).all (·.oneCell') = true := by
  rw [Array.all_eq_true]
  intro i hi
  rw [hsA_size] at hi
  have := hsA_at f k i hi
  rw [Array.getElem?_eq_getElem (by rw [hsA_size]; exact hi)] at this
  have e := Option.some.inj this
  rw [e]; rfl
theorem hsA_zero (f : Nat → Int) : Array.replicate 256 (Value.int .i64 0) = hsA f 0 := by
  apply Array.ext_getElem?
  intro i
  by_cases h : i < 256
  · rw [hsA_at f 0 i h, Array.getElem?_replicate, if_pos h]; rfl
  · rw [Array.getElem?_replicate, if_neg h, Array.getElem?_eq_none (by rw [hsA_size]; omega)]
theorem hsA_set (f : Nat → Int) (k V : Nat) (hV : V < 256) (h : f k = (V : Int)) : (hsA f k).setIfInBounds V (.int .i64 (hst f k V + 1)) = hsA f (k + 1) := by
  apply Array.ext_getElem?
  intro i
  rw [Array.getElem?_setIfInBounds]
  by_cases hi : i < 256
  · rw [hsA_at f (k + 1) i hi, ← hst_step f k V h]
    unfold updN
    by_cases e : V = i
    · subst e; rw [if_pos rfl, if_pos (by rw [hsA_size]; exact hV), if_pos rfl]
    · rw [if_neg e, hsA_at f k i hi, if_neg (fun h => e h.symm)]
  · rw [show (hsA f (k + 1))[i]? = none from Array.getElem?_eq_none (by rw [hsA_size]; omega)]
    split
    · omega
    · exact Array.getElem?_eq_none (by rw [hsA_size]; omega)

theorem results_cell_ld {P : Program} {fn : Func} {p : Tmp} {ty : TypeId} {v : Value} (h : fn.results = #[.cell p ty]) (tmps : Array Value) (w : World) (g : Nat)
    (hp : tmps.getD p undef = .pointer (some ⟨g, 0, none⟩)) (hld : (loadVar ty ⟨g, 0, none⟩).run P w = .ok v w) : (results fn tmps).run P w = .ok v w := by
  have hp' : tmps[p]?.getD undef = .pointer (some ⟨g, 0, none⟩) := by simpa using hp
  simp [results, h, hp', asAddr, hld]
theorem below_setCells {B b : Nat} {w : World} (hb : B ≤ b) : ∀ (vs : List Value) (o : Nat) {w1 : World}, Below B w w1 → Below B w (w1.setCells b o vs)
  | [], _, _, h => h
  | v :: vs, o, _, h => below_setCells hb vs (o + 1) (h.setCell (p := ⟨b, o, none⟩) hb v)

set_option maxRecDepth 100000 in
set_option maxHeartbeats 4000000 in
theorem tallyOf_any (a : Option Addr) (n cap : Nat) (f : Nat → Int) (hl : n ≤ 4096) (hf : ∀ k, k < n → 0 ≤ f k ∧ f k ≤ 255) (w : World) (h : Px a n f w) :
    Calls Try.prog 21 #[.slice a n cap] w fun e w' => e = .returned (.agg (hsA f n)) ∧ Below w.heap.size w w' := by
  have HP := hide h
  have HF := hide hf
  clear h hf
  obtain ⟨hz, hi⟩ := zero_of_info tal_info
  rw [hsA_zero f] at hz
  have hi' : ∀ k, (Try.prog.info? 48).map (·.size) = some (hsA f k).size := fun k => by rw [hsA_size]; exact hi
  have hs1 := run_storeCells_new (P := Try.prog) (w.alloc (.cells (hsA f 0) 48)) 48 (hsA f 0) (hsA f 0) (hi' 0) rfl (hsA_one f 0)
  rw [show (w.alloc (.cells (hsA f 0) 48)).heap.size = w.heap.size + 1 by simp] at hs1
  have HI := hide hi'
  clear hi hi'
  go_enter Try.func21, Try.ntmps21
  go_upto_region 2 with fail
  generalize hw2 : (w.alloc (.cells (hsA f 0) 48)).alloc (.cells (hsA f 0) 48) = w2 at *
  have HB2 : Hid (Below w.heap.size w w2) := by show Below _ _ _; rw [← hw2]; exact (bnew _ _).alloc (by simp) _
  have HC2 : Hid (w2.heap[w.heap.size + 1]? = some (.cells (hsA f 0) 48)) := by
    show _ = _
    rw [← hw2]
    have := heap_alloc_last (w.alloc (.cells (hsA f 0) 48)) (.cells (hsA f 0) 48)
    simpa using this
  have HR2 : Hid (w2.heap[w.heap.size]? = some (.cells (hsA f 0) 48)) := by
    show _ = _
    rw [← hw2, (bnew (w.alloc (.cells (hsA f 0) 48)) _).block w.heap.size (by simp)]
    exact heap_alloc_last w _
  clear hw2 hs1 hz
  go_wp2_with fail
  go_loopw [5, 9] (fun _ i wr => ∃ k : Nat, k ≤ n ∧ i = .int .i64 k ∧ wr.heap[w.heap.size + 1]? = some (.cells (hsA f k) 48) ∧ wr.heap[w.heap.size]? = some (.cells (hsA f 0) 48) ∧ Below w.heap.size w wr) (fun _ i _ => n - (intOf i).toNat)
  case atStart => exact ⟨0, by omega, rfl, HC2.out, HR2.out, HB2.out⟩
  case round =>
    obtain ⟨k, hk, rfl, hC, hR, hB⟩ := hrel
    clear HC2 HR2 HB2
    by_cases hlt : k < n
    · obtain ⟨b, off, rfl, hz⟩ := (HP.out.below hB).at hlt
      have hfk := HF.out k hlt
      obtain ⟨V, hV⟩ : ∃ V : Nat, f k = (V : Int) := ⟨(f k).toNat, by omega⟩
      have hV2 : V < 256 := by omega
      have hV3 : (V : Int) < 256 := by omega
      have hbd := hst_bd f k V
      have hcell : wr.cell? ⟨w.heap.size + 1, V, none⟩ = some (.int .i64 (hst f k V)) := by rw [cell_of_row wr _ V _ _ _ hC, hsA_at f k V hV2]
      have hfr : wr.frozen? ⟨w.heap.size + 1, V, none⟩ = false := by simp [World.frozen?, hC]
      have HC3 : Hid ((wr.setCell ⟨w.heap.size + 1, V, none⟩ (.int .i64 (hst f k V + 1))).heap[w.heap.size + 1]? = some (.cells (hsA f (k + 1)) 48)) := by
        show _ = _
        rw [heap_setCell_same wr _ V _ _ _ hC, hsA_set f k V hV2 hV]
      have HR3 : Hid ((wr.setCell ⟨w.heap.size + 1, V, none⟩ (.int .i64 (hst f k V + 1))).heap[w.heap.size]? = some (.cells (hsA f 0) 48)) := by
        show _ = _
        rw [heap_setCell_other wr _ _ _ (by show w.heap.size ≠ w.heap.size + 1; omega)]; exact hR
      have HB3 : Hid (Below w.heap.size w (wr.setCell ⟨w.heap.size + 1, V, none⟩ (.int .i64 (hst f k V + 1)))) := hB.setCell (by show w.heap.size ≤ w.heap.size + 1; omega) _
      rw [hV] at hz
      clear hC hR hB HP HF hfk hV
      generalize hst f k V = C at *
      go_wp2_with fail
      go_roundw
      case rel => exact ⟨k + 1, by omega, by go_num, HC3.out, HR3.out, HB3.out⟩
      case measure => simp [intOf]; omega
    · obtain rfl : k = n := by omega
      have hra : wr.rangeAt (w.heap.size + 1) 0 (hsA f k).toList := fun j v hv => by
        rw [Nat.zero_add, cell_of_row wr _ j _ _ _ hC]
        simpa using hv
      have hth : wr.there w.heap.size 0 (hsA f k).size := fun j hj => by
        rw [hsA_size] at hj
        rw [Nat.zero_add]
        exact ⟨by rw [cell_of_row wr _ j _ _ _ hR, hsA_at f 0 j hj]; rfl, frozen_of_row wr _ j _ _ hR⟩
      have hlen : (hsA f k).toList.length = 256 := by rw [Array.length_toList, hsA_size]
      have hr3 := World.rangeAt_setCells_same wr w.heap.size 0 (hsA f k).toList (by rw [Array.length_toList]; exact hth)
      have hld := run_loadVar_mid (P := Try.prog) (wr.setCells w.heap.size 0 (hsA f k).toList) w.heap.size 0 48 (hsA f k).toList _ hr3 tal_under rfl (by rw [Array.length_toList]; exact HI.out k)
      have HB : Hid (Below w.heap.size w (wr.setCells w.heap.size 0 (hsA f k).toList)) := below_setCells (Nat.le_refl _) _ 0 hB
      have hone := hsA_one f k
      have hik := HI.out k
      have hila : (Try.prog.info? 48).map (·.size) = some (hsA f k).toList.length := by rw [Array.length_toList]; exact hik
      have hto : (hsA f k).toList.toArray = hsA f k := by simp
      have hsz : (hsA f k).size = 256 := hsA_size f k
      have hsc : (storeCells ⟨w.heap.size, 0, none⟩ (hsA f k).toList 0).run Try.prog wr = .ok () (wr.setCells w.heap.size 0 (hsA f k).toList) := run_storeCells_cells (P := Try.prog) w.heap.size 0 (hsA f k).toList 0 wr (fun j hj => by have := (hth j (by simpa using hj)).1; simpa using this) (fun j hj => by have := (hth j (by simpa using hj)).2; simpa using this) (fun v hv => (Array.all_eq_true_iff_forall_mem.1 (hsA_one f k)) v (by simpa using hv))
      clear hlen hr3 hC hR hB HP HF HI
      rw [hto] at hld
      generalize hA : hsA f k = A at *
      generalize hA0 : hsA f 0 = A0 at *
      have HA := hide hA
      clear hA hA0
      go_wp2_with fail
      refine wp_load_mid _ _ rfl (w.heap.size + 1) 0 rfl A.toList _ hra tal_under rfl hila ?_
      rw [hto]
      go_wp2_with fail
      refine bodyPost_ret (v := .agg A) ?_ rfl ⟨by rw [HA.out], HB.out⟩
      exact results_cell_ld Try.results21 _ _ w.heap.size rfl hld

end Go.Proofs.Ytfbjjfpcgpkhiaa
