/- Archives: the chain of the book, the specification. -/
import Derived.Test.YtcdpnofjahdieaaArd
import Derived.Test.YtcdpnofjahdieaaKpu
namespace Go.Proofs.Ytcdpnofjahdieaa
open Go.RowKit

theorem below_bytesW (w : World) (s : ByteArray) : Below w.heap.size w (Lib.bytesWorld w 5 s) := by
  have h := ((Below.refl w.heap.size w).drew).alloc (Nat.le_refl _) (.cells (Lib.bytesCells w 5 s) 5)
  refine ⟨h.os, h.tape, h.output, ?_, ?_⟩
  · rw [Lib.bytesWorld_size]; omega
  · intro b hb; exact Lib.bytesWorld_at_old w 5 s b hb
theorem bytesW_src (w : World) (t : ByteArray) (cap : Nat) : SrcU 0 (.slice (some ⟨w.heap.size, 0, none⟩) (txL t).length cap) (txL t) (Lib.bytesWorld w 5 t) := by
  refine .inr ⟨w.heap.size, 0, cap, Nat.zero_le _, rfl, fun j hj => ?_⟩
  rw [txL_len] at hj
  rw [Nat.zero_add, Lib.bytesWorld_cell w 5 t j hj]
  have hj' : j < t.data.size := hj
  congr 2
  simp [txL, List.getD, List.getElem?_map, Array.getElem?_toList, Array.getElem?_eq_getElem hj']

set_option maxRecDepth 100000 in
set_option maxHeartbeats 2000000 in
theorem l14Chain_any (last tick kind : Int) (nm : ByteArray) (ver chain : Int) (hs : nm.size ≤ 1048000) (w : World) :
    Calls Try.prog 38 #[.int .i64 last, vNote tick kind nm ver chain] w fun e w' => e = .returned (.int .i64 (chV last tick kind ver nm)) ∧ Below w.heap.size w w' := by
  obtain ⟨W, hW⟩ : ∃ W, W = w.alloc (.cells #[.int .i64 tick, .int .i64 kind, .string nm, .int .i64 ver, .int .i64 chain] 68) := ⟨_, rfl⟩
  have HWB : Hid (Below w.heap.size w W) := by show Below _ _ _; rw [hW]; exact bnew _ _
  have hWs : Hid (w.heap.size < W.heap.size) := by show _ < _; rw [hW]; simp
  have i0 : W.cell? ⟨w.heap.size, 0, none⟩ = some (.int .i64 tick) := by rw [hW]; simp [go_sem]
  have i1 : W.cell? ⟨w.heap.size, 1, none⟩ = some (.int .i64 kind) := by rw [hW]; simp [go_sem]
  have i2 : W.cell? ⟨w.heap.size, 2, none⟩ = some (.string nm) := by rw [hW]; simp [go_sem]
  have i3 : W.cell? ⟨w.heap.size, 3, none⟩ = some (.int .i64 ver) := by rw [hW]; simp [go_sem]
  have HI2 := hide i2
  have HKP : Hid (∀ wz, Below W.heap.size W wz → wz.cell? ⟨w.heap.size, 0, none⟩ = some (.int .i64 tick) ∧ wz.cell? ⟨w.heap.size, 1, none⟩ = some (.int .i64 kind) ∧ wz.cell? ⟨w.heap.size, 3, none⟩ = some (.int .i64 ver)) := fun wz hb => ⟨(hb.cell (p := ⟨w.heap.size, 0, none⟩) hWs.out).trans i0, (hb.cell (p := ⟨w.heap.size, 1, none⟩) hWs.out).trans i1, (hb.cell (p := ⟨w.heap.size, 3, none⟩) hWs.out).trans i3⟩
  have SKd : Hid (W.drew.cell? ⟨w.heap.size, 0, none⟩ = some (.int .i64 tick) ∧ W.drew.cell? ⟨w.heap.size, 1, none⟩ = some (.int .i64 kind) ∧ W.drew.cell? ⟨w.heap.size, 3, none⟩ = some (.int .i64 ver)) := HKP.out _ (Below.refl _ _).drew
  have HBa : Hid (Below W.heap.size W ((W.alloc (.cells #[] 5)).drew)) := (bnew _ _).drew
  have SKa : Hid (((W.alloc (.cells #[] 5)).drew).cell? ⟨w.heap.size, 0, none⟩ = some (.int .i64 tick) ∧ ((W.alloc (.cells #[] 5)).drew).cell? ⟨w.heap.size, 1, none⟩ = some (.int .i64 kind) ∧ ((W.alloc (.cells #[] 5)).drew).cell? ⟨w.heap.size, 3, none⟩ = some (.int .i64 ver)) := HKP.out _ HBa.out
  have HOa : Hid (((W.alloc (.cells #[] 5)).drew).ownsRow W.heap.size 5 1 (.slice (some ⟨W.heap.size, 0, none⟩) 0 0) 0 (bys [])) := (World.ownsRow_lit W #[] 0 (Nat.le_refl _) (by unfold maxLen; omega) rfl).drew
  have e8 : ((8 : Nat) : Int) = 8 := rfl
  have c1 := l12Low_any W.heap.size _ 0 [] last 8 (by omega) (by omega) _ HOa.out HBa.out.size
  have c2 := fun wz vz hz hB => l12Low_any W.heap.size vz (0 + 8) ([] ++ lowL (IntKind.u64.wrap last) 8) tick 8 (by omega) (by omega) wz hz hB
  have c3 := fun wz vz hz hB => l12Low_any W.heap.size vz (0 + 8 + 8) ([] ++ lowL (IntKind.u64.wrap last) 8 ++ lowL (IntKind.u64.wrap tick) 8) kind 8 (by omega) (by omega) wz hz hB
  have c4 := fun wz vz hz hB => l12Low_any W.heap.size vz (0 + 8 + 8 + 8) ([] ++ lowL (IntKind.u64.wrap last) 8 ++ lowL (IntKind.u64.wrap tick) 8 ++ lowL (IntKind.u64.wrap kind) 8) ver 8 (by omega) (by omega) wz hz hB
  rw [e8] at c1
  simp only [e8] at c2 c3 c4
  have HCL : Hid (chL last tick kind ver nm = [] ++ lowL (IntKind.u64.wrap last) 8 ++ lowL (IntKind.u64.wrap tick) 8 ++ lowL (IntKind.u64.wrap kind) 8 ++ lowL (IntKind.u64.wrap ver) 8 ++ txL nm) := rfl
  have hlA : Hid (([] ++ lowL (IntKind.u64.wrap last) 8 ++ lowL (IntKind.u64.wrap tick) 8 ++ lowL (IntKind.u64.wrap kind) 8 ++ lowL (IntKind.u64.wrap ver) 8).length = 32) := by show _ = _; simp [lowL_len]
  generalize [] ++ lowL (IntKind.u64.wrap last) 8 = A1 at *
  generalize A1 ++ lowL (IntKind.u64.wrap tick) 8 = A2 at *
  generalize A2 ++ lowL (IntKind.u64.wrap kind) 8 = A3 at *
  generalize A3 ++ lowL (IntKind.u64.wrap ver) 8 = A4 at *
  have hW' := hW.symm
  clear hW i0 i1 i2 i3
  go_enter Try.func38, Try.ntmps38
  go_upto_region 1 with fail
  go_region_held (fun (w' : World) => w'.cell? ⟨w.heap.size, 0, none⟩ = some (.int .i64 tick) ∧ w'.cell? ⟨w.heap.size, 1, none⟩ = some (.int .i64 kind) ∧ w'.cell? ⟨w.heap.size, 3, none⟩ = some (.int .i64 ver))
    (first | with_reducible exact SKd.out | with_reducible exact SKa.out | with_reducible exact SK1.out | with_reducible exact SK2.out | with_reducible exact SK3.out | with_reducible exact SK4.out)
    (first
      | (go_at_call 53; (with_reducible refine c1.mono ?_); rintro e w1 ⟨v1, rfl, ho1, hb1⟩; have HO1 := hide ho1; have HB1 := hide (HBa.out.trans hb1); have HS1 := hide HB1.out.size; have SK1 := hide (HKP.out _ HB1.out); clear ho1 hb1 c1)
      | (go_at_call 53; (with_reducible refine (c2 _ _ HO1.out HS1.out).mono ?_); rintro e w2 ⟨v2, rfl, ho2, hb2⟩; have HO2 := hide ho2; have HB2 := hide (HB1.out.trans hb2); have HS2 := hide HB2.out.size; have SK2 := hide (HKP.out _ HB2.out); clear ho2 hb2 c2)
      | (go_at_call 53; (with_reducible refine (c3 _ _ HO2.out HS2.out).mono ?_); rintro e w3 ⟨v3, rfl, ho3, hb3⟩; have HO3 := hide ho3; have HB3 := hide (HB2.out.trans hb3); have HS3 := hide HB3.out.size; have SK3 := hide (HKP.out _ HB3.out); clear ho3 hb3 c3)
      | (go_at_call 53; (with_reducible refine (c4 _ _ HO3.out HS3.out).mono ?_); rintro e w4 ⟨v4, rfl, ho4, hb4⟩; have HO4 := hide ho4; have HB4 := hide (HB3.out.trans hb4); have HS4 := hide HB4.out.size; have SK4 := hide (HKP.out _ HB4.out); clear ho4 hb4 c4))
  all_goals
    have hz : w4.cell? ⟨w.heap.size, 2, none⟩ = some (.string nm) := (HB4.out.cell (p := ⟨w.heap.size, 2, none⟩) hWs.out).trans HI2.out
    have hcv := Lib.run_convert_string_bytes (P := Try.prog) w4 9 82 5 nm Try.underlying9 Try.underlying82 Try.underlying5
    have HBW := hide (below_bytesW w4 nm)
    have HSR := hide (fun cap' => bytesW_src w4 nm cap')
    have HOW : Hid ((Lib.bytesWorld w4 5 nm).ownsRow W.heap.size 5 1 v4 A4.length (bys A4)) := by show World.ownsRow _ _ _ _ _ _ _; rw [hlA.out]; exact ownsRow_below' HO4.out HBW.out
    have HBX : Hid (Below W.heap.size W (Lib.bytesWorld w4 5 nm)) := bnext HB4.out (Nat.le_refl _) HBW.out
    have HSX : Hid (W.heap.size ≤ (Lib.bytesWorld w4 5 nm).heap.size) := HBX.out.size
    rw [txL_len] at HSR
    have HNN : Hid (A4.length + (txL nm).length ≤ 2000000000) := by show _ ≤ _; rw [hlA.out, txL_len]; omega
    generalize Lib.bytesWorld w4 5 nm = W5 at *
    generalize grownCap w4 nm.size 0 5 = cp' at *
    clear HO1 HO2 HO3 HO4 HB1 HB2 HB3 HS1 HS2 HS3 HS4 SK1 SK2 SK3 SK4 SKd SKa HOa HBa HKP hW' HBW
    go_wp2_with (refine growCatUM _ rfl _ _ rfl W.heap.size _ A4.length A4 rfl W HOW.out HBX.out HSX.out _ (txL nm) rfl (HSR.out _) HNN.out ?_)
    intro v' w' ho' hb' hk'
    rw [← HCL.out] at ho'
    have hlen := chL_len last tick kind ver nm
    rw [show A4.length + (txL nm).length = 32 + nm.size by rw [hlA.out, txL_len]] at ho'
    obtain ⟨a2, cap2, rfl, hU⟩ := own_pxU ho'
    have c := specDigest_any a2 (32 + nm.size) cap2 (fun k => (chL last tick kind ver nm).getD k 0) (by omega) (fun k hk => getD_by (chL_by last tick kind ver nm) k (by omega)) w' hU
    have HE : Hid (chV last tick kind ver nm = dig (fun k => (chL last tick kind ver nm).getD k 0) ((32 + nm.size : Nat) : Int) (32 + nm.size)) := by
      show _ = _
      unfold chV dgL
      rw [hlen]
    have HBF : Hid (Below w.heap.size w w') := bnext HWB.out (Nat.le_refl _) hb'
    clear hlen hU ho' hb' hk' HOW HBX HSX HSR
    go_wp2_with fail
    refine c.mono ?_
    rintro e w'' ⟨rfl, hb''⟩
    have HBG := hide (bnext HBF.out (Nat.le_refl _) hb'')
    clear c hb'' HBF
    go_wp2_with fail
    go_ret
    exact ⟨by rw [HE.out]; rfl, HBG.out⟩

end Go.Proofs.Ytcdpnofjahdieaa
