/- Label, the program: a label spreads over all that is joined. -/
import Derived.Test.YtfaponkmmiiehaaLbp
namespace Go.Proofs.Ytfaponkmmiiehaa
open Go.RowKit

theorem Bx.same {b : Nat} {vs : List Value} {w w' : World} (h : Bx b vs w) (e : w'.heap[b]? = w.heap[b]?) : Bx b vs w' := fun j v hv =>
  ⟨(World.cell?_of_block (w := w) (a := ⟨b, j, none⟩) e).trans (h j v hv).1, (World.frozen?_of_block (w := w) (a := ⟨b, j, none⟩) e).trans (h j v hv).2⟩
theorem own_one (w : World) (z : Int) : (w.alloc (.cells #[.int .i64 z] 2)).ownsRow w.heap.size 2 1 (.slice (some ⟨w.heap.size, 0, none⟩) 1 1) 1 (ints [z]) :=
  ⟨by simp [ints], .inr ⟨w.heap.size, 1, #[.int .i64 z], rfl, Nat.le_refl _, heap_alloc_new w _, Nat.le_refl _, by unfold maxLen; omega, by simp, by simp [ints]⟩⟩
theorem own_form {w : World} {B n m : Nat} {e : TypeId} {v : Value} {xs : List Value} (h : w.ownsRow B e m v n xs) : ∃ a cap, v = .slice a n cap := by
  rcases h.2 with ⟨hv, h0⟩ | ⟨b', cap', cur, hv, -⟩
  · exact ⟨none, 0, by rw [hv, h0]⟩
  · exact ⟨_, _, hv⟩
theorem off_far {a : Option Addr} {b n : Nat} {f : Nat → Int} {w w' : World} (h : Ow a b (n + 1) f w') (hb : n + 1 = 0 ∨ w.drew.heap.size ≤ b) : ∀ z off, a = some ⟨z, off, none⟩ → w.heap.size ≤ z := fun z off hz => by
  rcases h with h | ⟨h, -⟩
  · omega
  · rw [h] at hz
    cases hz
    rcases hb with h2 | h2
    · omega
    · exact h2
theorem own_cap {w : World} {B n m b cap : Nat} {e : TypeId} {xs : List Value} (h : w.ownsRow B e m (.slice (some ⟨b, 0, none⟩) n cap) n xs) : n ≤ cap := by
  rcases h.2 with ⟨hv, h0⟩ | ⟨b', cap', cur, hv, _, _, hn, _⟩
  · cases hv
  · cases hv; exact hn
theorem own_cutL {w : World} {B n b cap : Nat} {L : List Int} {z : Int} (h : w.ownsRow B 2 1 (.slice (some ⟨b, 0, none⟩) (n + 1) cap) (n + 1) (ints (L ++ [z]))) (hn : L.length = n) : w.ownsRow B 2 1 (.slice (some ⟨b, 0, none⟩) n cap) n (ints L) := by
  obtain ⟨h1, h2⟩ := h
  refine ⟨by simp [ints, hn], ?_⟩
  rcases h2 with ⟨hv, _⟩ | ⟨b', cap', cur, hv, hB, hh, hn', hc, hs, ht⟩
  · cases hv
  · cases hv
    refine .inr ⟨b, cap, cur, rfl, hB, hh, by omega, hc, hs, ?_⟩
    have h3 := congrArg (List.take n) ht
    rw [List.take_take] at h3
    rw [Nat.mul_one] at h3 ⊢
    rw [Nat.min_eq_left (by omega)] at h3
    rw [h3]
    simp [ints, ← hn]

set_option maxRecDepth 100000 in
set_option maxHeartbeats 4000000 in
theorem spread_any (W H : Int) (b n cap : Nat) (f l : Nat → Int) (c : Int) (k : Nat) (hn : (n : Int) = W * H) (hW : 1 ≤ W) (hW' : W ≤ 64) (hH : 1 ≤ H) (hH' : H ≤ 64) (hn4 : n ≤ 4096) (hc : 1 ≤ c) (hl0 : ∀ q, 0 ≤ l q) (hk : Fre n f l k)
    (w : World) (hr : Row b n (encL f l) w) :
    Calls Try.prog 24 #[im W H (some ⟨b, 0, none⟩) n cap, .int .i64 k, .int .i64 c] w fun e w' => e = .returned (.tuple #[]) ∧
      ∃ A, Fd (Fre n f l) (nbs W H besF) k A [] ∧ Row b n (encL f (lbA l c A)) w' ∧ Kept b w w' := by
  have hkn := hk.1
  have hbb : b < w.heap.size := hr.lt (by omega)
  obtain ⟨w0, hw0⟩ : ∃ w0, w0 = (w.alloc (.cells #[.int .i64 W, .int .i64 H, .slice (some ⟨b, 0, none⟩) n cap] 44)).alloc (.cells #[.int .i64 c] 2) := ⟨_, rfl⟩
  have hb0 : Below w.heap.size w w0 := by rw [hw0]; exact (bnew _ _).alloc (by simp) _
  have hz0 : w0.heap.size = w.heap.size + 2 := by rw [hw0]; simp
  have hBp : Bx w.heap.size [.int .i64 W, .int .i64 H, .slice (some ⟨b, 0, none⟩) n cap] w0 := by
    rw [hw0]; exact (Bx.new [.int .i64 W, .int .i64 H, .slice (some ⟨b, 0, none⟩) n cap] 44 w).below (bnew _ _) (by simp)
  have hBl : Bx (w.heap.size + 1) [.int .i64 c] w0 := by
    rw [hw0]
    have h := Bx.new [.int .i64 c] 2 (w.alloc (.cells #[.int .i64 W, .int .i64 H, .slice (some ⟨b, 0, none⟩) n cap] 44))
    rw [show (w.alloc (.cells #[.int .i64 W, .int .i64 H, .slice (some ⟨b, 0, none⟩) n cap] 44)).heap.size = w.heap.size + 1 by simp] at h
    exact h
  have hr0 : Row b n (encL f l) w0 := hr.same (hb0.block b hbb)
  obtain ⟨y0, f0⟩ := hr0 k hkn
  obtain ⟨wa, hwa⟩ : ∃ wa, w0.setCell ⟨b, k, none⟩ (.int .i64 c) = wa := ⟨_, rfl⟩
  have hoth : ∀ j, j ≠ b → wa.heap[j]? = w0.heap[j]? := fun j hj => by rw [← hwa]; exact heap_setCell_other w0 ⟨b, k, none⟩ j _ hj
  have hza : wa.heap.size = w.heap.size + 2 := by rw [← hwa, ← hz0]; simp
  have hBpa := hide (hBp.same (hoth w.heap.size (by omega)))
  have hBla := hide (hBl.same (hoth (w.heap.size + 1) (by omega)))
  have hra : Hid (Row b n (encL f (lbA l c [k])) wa) := by
    have h := Row.updN hr0 hkn c
    have e := encL_put (f := f) (l := l) (A := []) hc k
    rw [lbA_nil] at e
    rw [e, hwa] at h
    exact h
  have hKa : Hid (KpS (fun x => x = b ∨ w.heap.size ≤ x) w wa) := by
    rw [← hwa]; exact ((KpS.of_below hb0).setCell (a := ⟨b, k, none⟩) (.inl rfl) _)
  have i2 := (hBp 2 _ rfl).1
  have j0 := (hBl 0 _ rfl).1
  have HZ := hide hza
  have HBB := hide hbb
  clear hBp hBl hr0 hoth hza hb0 hz0 hr hbb
  rw [hw0] at y0 f0 i2 j0 hwa
  clear hw0
  have HL0 := hide hl0
  have HK := hide hk
  clear hl0 hk
  have HN := hide (And.intro hn (And.intro (And.intro hW hW') (And.intro (And.intro hH hH') (And.intro hn4 hc))))
  clear hn hW hW' hH hH' hc
  go_enter Try.func24, Try.ntmps24
  go_upto_region 2 with fail
  clear hwa y0 f0 i2 j0
  have HO1 : Hid (((wa.alloc (.cells #[.int .i64 k] 2)).alloc (.cells #[.slice (some ⟨wa.heap.size, 0, none⟩) 1 1] 24)).ownsRow (w.heap.size + 2) 2 1 (.slice (some ⟨wa.heap.size, 0, none⟩) 1 1) 1 (ints (cs [k]))) := by
    have h := (own_one wa (k : Int)).alloc (.cells #[.slice (some ⟨wa.heap.size, 0, none⟩) 1 1] 24)
    exact owns_mono h (Nat.le_of_eq HZ.out.symm)
  have HBw : Hid (Bx (wa.heap.size + 1) [.slice (some ⟨wa.heap.size, 0, none⟩) 1 1] ((wa.alloc (.cells #[.int .i64 k] 2)).alloc (.cells #[.slice (some ⟨wa.heap.size, 0, none⟩) 1 1] 24))) := by
    have h := Bx.new [.slice (some ⟨wa.heap.size, 0, none⟩) 1 1] 24 (wa.alloc (.cells #[.int .i64 k] 2))
    rw [show (wa.alloc (.cells #[.int .i64 k] 2)).heap.size = wa.heap.size + 1 by simp] at h
    exact h
  have HBN : Hid (Below wa.heap.size wa ((wa.alloc (.cells #[.int .i64 k] 2)).alloc (.cells #[.slice (some ⟨wa.heap.size, 0, none⟩) 1 1] 24))) := (bnew _ _).alloc (by simp) _
  go_wp2_with fail
  generalize (wa.alloc (.cells #[.int .i64 k] 2)).alloc (.cells #[.slice (some ⟨wa.heap.size, 0, none⟩) 1 1] 24) = wb at *
  have HBPb := hide (hBpa.out.below HBN.out (by rw [HZ.out]; omega))
  have HBLb := hide (hBla.out.below HBN.out (by rw [HZ.out]; omega))
  have HRb : Hid (Row b n (encL f (lbA l c [k])) wb) := hra.out.same (HBN.out.block b (by rw [HZ.out]; have := HBB.out; omega))
  have HKb := hide (hKa.out.next HBN.out)
  have HV0 : Hid (∀ x, (Value.slice (some ⟨wa.heap.size, 0, none⟩) 1 1).ownBlock = some x → x ≠ wa.heap.size + 1) := fun x hx => by cases hx; show wa.heap.size ≠ _; omega
  generalize (Value.slice (some ⟨wa.heap.size, 0, none⟩) 1 1) = v0 at *
  have HW : Hid (w.heap.size + 2 < wa.heap.size + 1) := by show _ < _; rw [HZ.out]; omega
  obtain ⟨bw, hbw⟩ : ∃ bw, wa.heap.size + 1 = bw := ⟨_, rfl⟩
  rw [hbw] at HBw HV0 HW ⊢
  clear hbw hBpa hBla hra hKa HBN HZ
  go_loopg [7, 8] (2 * (n - 1) + 1) (fun gk _ _ wr => ∃ (A S : List Nat) (v : Value), gk = 2 * (n - A.length) + S.length ∧ Fd (Fre n f l) (nbs W H besF) k A S ∧ Bx w.heap.size [.int .i64 W, .int .i64 H, .slice (some ⟨b, 0, none⟩) n cap] wr ∧ Bx (w.heap.size + 1) [.int .i64 c] wr ∧ Bx bw [v] wr ∧ Row b n (encL f (lbA l c A)) wr ∧ wr.ownsRow (w.heap.size + 2) 2 1 v S.length (ints (cs S)) ∧ (∀ x, v.ownBlock = some x → x ≠ bw) ∧ KpS (fun x => x = b ∨ w.heap.size ≤ x) w wr ∧ S.length ≤ A.length)
  case atStart => exact ⟨[k], [k], v0, rfl, Fd.start _ _ _, HBPb.out, HBLb.out, HBw.out, HRb.out, HO1.out, HV0.out, HKb.out, Nat.le_refl _⟩
  case round =>
    obtain ⟨A, S, v, rfl, hF, hP, hLb, hWb, hR, hO, hvw, hK, hSA⟩ := hrel
    clear HBPb HBLb HBw HRb HO1 HV0 HKb
    have c9 := (hWb 0 _ rfl).1
    have f9 := (hWb 0 _ rfl).2
    have HF := hide hF
    have HP := hide hP
    have HLb := hide hLb
    have HWb := hide hWb
    have HR := hide hR
    have HO := hide hO
    have HVW := hide hvw
    have HKr := hide hK
    have HSA := hide hSA
    clear hF hP hLb hWb hR hO hvw hK hSA
    rcases List.eq_nil_or_concat S with rfl | ⟨S', p, rfl⟩
    · obtain ⟨av, capv, rfl⟩ := own_form HO.out
      have HE : Hid (Kept b w wr) := ⟨HKr.out.os, HKr.out.tape, HKr.out.output, HKr.out.size, fun j hj hjb => HKr.out.block j hj (fun h => by rcases h with h | h; (exact hjb h); (omega))⟩
      go_wp2_with fail
      go_end0
      exact ⟨rfl, A, HF.out, HR.out, HE.out⟩
    · rw [List.concat_eq_append] at HF HO HSA
      have hlen : (S' ++ [p]).length = S'.length + 1 := by simp
      have HPS : Hid (p ∈ S' ++ [p]) := by show _ ∈ _; simp
      have hAn := (HF.out.len HK.out).1
      have hpn : p < n := ((HF.out.len HK.out).2 p (HF.out.sub p HPS.out)).1
      have hSn : S'.length + 1 ≤ n := by have := HSA.out; rw [hlen] at this; omega
      rw [hlen] at HO
      obtain ⟨bS, capS, hvS, hGS, hcell⟩ := own_partsL HO.out (by omega)
      subst hvS
      obtain ⟨z0, -⟩ := hcell S'.length (by omega)
      rw [cs_at (p := p) (by simp)] at z0
      have hbS : bS ≠ bw := HVW.out bS rfl
      have HOc : Hid (wr.ownsRow (w.heap.size + 2) 2 1 (.slice (some ⟨bS, 0, none⟩) S'.length capS) S'.length (ints (cs S'))) := by
        have h := HO.out
        rw [cs_app] at h
        exact own_cutL (z := (p : Int)) h (cs_len S')
      have hle : 2 * (n - A.length) + (S'.length + 1) = 2 * (n - A.length) + S'.length + 1 := by omega
      -- the world behind the cut
      obtain ⟨w6, hw6⟩ : ∃ w6, wr.setCell ⟨bw, 0, none⟩ (.slice (some ⟨bS, 0, none⟩) S'.length capS) = w6 := ⟨_, rfl⟩
      have hoth : ∀ j, j ≠ bw → w6.heap[j]? = wr.heap[j]? := fun j hj => by rw [← hw6]; exact heap_setCell_other wr ⟨bw, 0, none⟩ j _ hj
      have hW := HW.out
      have hBB := HBB.out
      have HP6 := hide (HP.out.same (hoth w.heap.size (by omega)))
      have HL6 := hide (HLb.out.same (hoth (w.heap.size + 1) (by omega)))
      have HR6 : Hid (Row b n (encL f (lbA l c A)) w6) := HR.out.same (hoth b (by omega))
      have HO6 : Hid (w6.ownsRow (w.heap.size + 2) 2 1 (.slice (some ⟨bS, 0, none⟩) S'.length capS) S'.length (ints (cs S'))) := owns_keep HOc.out (fun x hx => hoth x (by cases hx; exact hbS))
      have HW6 : Hid (Bx bw [.slice (some ⟨bS, 0, none⟩) S'.length capS] w6) := by rw [← hw6]; exact HWb.out.set 0 _
      have HK6 : Hid (KpS (fun x => x = b ∨ w.heap.size ≤ x) w w6) := by rw [← hw6]; exact HKr.out.setCell (a := ⟨bw, 0, none⟩) (.inr (by show _ ≤ bw; omega)) _
      obtain ⟨N, hN⟩ := flA_ext (Fre n f l) (vq W H p 4) A
      obtain ⟨e1, ⟨e2, e3⟩, ⟨e4, e5⟩, e6, e7⟩ := HN.out
      have hbes := nbs_bes (W := W) (H := H) e1 e2 hpn
      have HF2 : Hid (Fd (Fre n f l) (nbs W H besF) k (A ++ N) (S' ++ N)) := HF.out.pop (p := p) HPS.out (fun j hj => by rw [List.mem_append, List.mem_singleton] at hj; exact hj.symm) (fun j hj => List.mem_append_left _ hj) (L := vq W H p 4) (fun x => by unfold vq nbs; exact Iff.rfl)
        (fun x hx => by
          have : x ∈ nbs W H besF p := hx
          rw [hbes] at this
          exact (besL_in e1 e2 hpn x this).1) hN
      have hlA := (HF2.out.len HK.out).1
      have hdr : (flA (Fre n f l) A (vq W H p 4)).drop A.length = N := by rw [hN]; simp
      have h2 : b < w6.heap.size := HR6.out.lt (by omega)
      have h3 : bw < w6.heap.size := World.block_lt_of_cell? w6 ⟨bw, 0, none⟩ (HW6.out 0 _ rfl).1
      have h4 : bS < w6.heap.size := owns_lt HO6.out bS rfl
      have cV : ∀ a2 cap2 w7, Below w6.heap.size w6 w7 → Px a2 (4 * 2) besF w7 → (∀ z off, a2 = some ⟨z, off, none⟩ → w6.heap.size ≤ z) → _ :=
        fun a2 cap2 w7 (hb7 : Below w6.heap.size w6 w7) hx hx2 => spreadVis_any W H b n cap f l c A S' p e1 e2 e3 e4 e5 hpn e6 e7 HL0.out (by rw [hN]; exact hlA) (by omega) a2 cap2 w.heap.size (w.heap.size + 1) bw (w.heap.size + 2) (.slice (some ⟨bS, 0, none⟩) S'.length capS) w7
          (HP6.out.below hb7 (World.block_lt_of_cell? w6 _ (HP6.out 0 _ rfl).1)) (HL6.out.below hb7 (World.block_lt_of_cell? w6 _ (HL6.out 0 _ rfl).1)) (HW6.out.below hb7 (World.block_lt_of_cell? w6 _ (HW6.out 0 _ rfl).1)) (HR6.out.same (hb7.block b (HR6.out.lt (by omega)))) (ownsRow_below' HO6.out hb7) hx
          (fun z off hz => by
            have h1 := hx2 z off hz
            refine ⟨by omega, by omega, fun h => ?_⟩
            have e : z = bS := by cases h; rfl
            omega)
          (by omega) (by omega) (by omega) (by omega) (by omega) (fun x hx => by have e : x = bS := by cases hx; rfl
                                                                                 rw [e]; exact ⟨by omega, hbS, by omega, by omega⟩)
          (Nat.le_trans (by omega) hb7.size)
      rw [hN] at cV
      rw [show (A ++ N).drop A.length = N by simp] at cV
      have hpo := fun w' => offsetsBeside_any w'
      unfold SpR at hpo
      obtain ⟨x0, x1, x2⟩ : w6.cell? ⟨w.heap.size, 0, none⟩ = some (.int .i64 W) ∧ w6.cell? ⟨w.heap.size, 1, none⟩ = some (.int .i64 H) ∧ w6.cell? ⟨w.heap.size, 2, none⟩ = some (.slice (some ⟨b, 0, none⟩) n cap) := ⟨(HP6.out 0 _ rfl).1, (HP6.out 1 _ rfl).1, (HP6.out 2 _ rfl).1⟩
      have hS4 : S'.length ≤ 4096 := by omega
      have hcap := own_cap HO.out
      clear hoth hlen hdr hbes hcell e1 e2 e3 e4 e5 e6 e7 hAn hSn hW hBB hGS hle
      have HLN : Hid ((A ++ N).length ≤ n ∧ (S' ++ N).length ≤ (A ++ N).length ∧ (A ++ N).length = A.length + N.length ∧ (S' ++ N).length = S'.length + N.length ∧ (S'.concat p).length = S'.length + 1) := ⟨hlA, by have := HSA.out; simp at this ⊢; omega, by simp, by simp, by simp⟩
      have HLE := hide (And.intro h2 (And.intro h3 (And.intro h4 (And.intro hbS (And.intro HW.out (And.intro HBB.out HVW.out))))))
      have HGS := hide (HO6.out.lt bS rfl).1
      have HCC : Hid (∀ w7, Below w6.heap.size w6 w7 → w7.cell? ⟨w.heap.size, 0, none⟩ = some (.int .i64 W) ∧ w7.cell? ⟨w.heap.size, 1, none⟩ = some (.int .i64 H)) := fun w7 hb => ⟨(hb.cell (World.block_lt_of_cell? w6 _ x0)).trans x0, (hb.cell (World.block_lt_of_cell? w6 _ x1)).trans x1⟩
      have x0d : w6.drew.cell? ⟨w.heap.size, 0, none⟩ = some (.int .i64 W) := x0
      have x1d : w6.drew.cell? ⟨w.heap.size, 1, none⟩ = some (.int .i64 H) := x1
      have HCV := hide cV
      clear cV h2 h3 h4 hlA
      generalize S'.length = M9 at *
      go_wp2_with fail
      go_upto_region 7 with fail
      go_region_with (first
        | (go_at_call 41; (with_reducible refine (hpo _).mono ?_); rintro e w7 ⟨a2, cap2, b2, rfl, how, hb2, hbe⟩; have HX7 := hide how.px; have HZ7 := hide (off_far how hb2); have HBE := hide ((Below.refl w6.heap.size w6).drew.trans hbe); obtain ⟨x0e, x1e⟩ := HCC.out w7 HBE.out; clear how hb2 hbe)
        | (go_at_call 40; (with_reducible refine (HCV.out a2 cap2 w7 HBE.out HX7.out HZ7.out).mono ?_); rintro e w8 ⟨rfl, k1, v2, k2, k3, k4, k5⟩))
      all_goals
        have HP8 : Hid (Bx w.heap.size [.int .i64 W, .int .i64 H, .slice (some ⟨b, 0, none⟩) n cap] w8) := k1.bx (fun h => by
          obtain ⟨h2, h3, h4, h5, h6, h7, -⟩ := HLE.out
          rcases h with h | h | h
          · omega
          · omega
          · have e : w.heap.size = bS := by cases h; rfl
            have := HGS.out; omega) (by have := HBE.out.size; have := HLE.out; have := HLE.out.2.2.2.2.1; omega) (HP6.out.below HBE.out (by have := HLE.out.2.1; have := HLE.out.2.2.2.2.1; omega))
        have HL8 : Hid (Bx (w.heap.size + 1) [.int .i64 c] w8) := k1.bx (fun h => by
          obtain ⟨h2, h3, h4, h5, h6, h7, -⟩ := HLE.out
          rcases h with h | h | h
          · omega
          · omega
          · have e : w.heap.size + 1 = bS := by cases h; rfl
            have := HGS.out; omega) (by have := HBE.out.size; have := HLE.out.2.1; have := HLE.out.2.2.2.2.1; omega) (HL6.out.below HBE.out (by have := HLE.out.2.1; have := HLE.out.2.2.2.2.1; omega))
        have HK8 : Hid (KpS (fun x => x = b ∨ w.heap.size ≤ x) w w8) := (HK6.out.next HBE.out).then k1 (fun x hx h => by
          rcases h with h | h | h
          · exact .inl h
          · right; have := HLE.out.2.2.2.2.1; omega
          · right; have e : x = bS := by cases h; rfl
            have := HGS.out; omega)
        have HV8 : Hid (∀ x, v2.ownBlock = some x → x ≠ bw) := fun x hx => by
          rcases k5 x hx with h | h
          · have e : x = bS := by cases h; rfl
            rw [e]; exact HLE.out.2.2.2.1
          · have := HBE.out.size; have := HLE.out.2.1; omega
        have HW8 := hide k2
        have HR8 := hide k3
        have HO8 := hide k4
        clear k1 k2 k3 k4 k5 x0 x1 x2 x0d x1d x0e x1e
        go_wp2_with fail
        go_roundg (2 * (n - (A ++ N).length) + (S' ++ N).length)
        case measure => have := HLN.out; omega
        case rel => exact ⟨A ++ N, S' ++ N, v2, rfl, HF2.out, HP8.out, HL8.out, HW8.out, HR8.out, HO8.out, HV8.out, HK8.out, HLN.out.2.1⟩

end Go.Proofs.Ytfaponkmmiiehaa
