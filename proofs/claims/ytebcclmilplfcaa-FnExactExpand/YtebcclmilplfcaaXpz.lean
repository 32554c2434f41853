/- The program's reader: the tones in bytes, by a codec. -/
import Derived.Test.YtebcclmilplfcaaXpu
namespace Go.Proofs.Ytebcclmilplfcaa
open Go.RowKit

theorem Vld.plain {f : Nat → Int} {n : Nat} {B : List Int} (h : Vld 1 f n B) : B = smL n ++ plL f n := by
  have := h.is.2.2
  simpa [cdL] using this
theorem Vld.rice {f : Nat → Int} {n : Nat} {B : List Int} (h : Vld 2 f n B) : (uvE (gB B) B.length (8 * (smL n).length) 8).toNat = bst f n ∧ RcI B n (bst f n) [] (min (8 * (smL n).length + 8) (8 * B.length)) f := by
  have hB := h.is.2.2
  simp only [cdL, Nat.reduceEqDiff, if_false, if_true] at hB
  have hb := bst_le f n
  have u := uv_byte (smL n) (bst f n : Int) (fl (byA (rcB f (bst f n) n)) (nB (rcN f (bst f n) n))) (by omega) (by omega) B.length (by rw [hB]; rfl)
  have hB2 : B = smL n ++ (bst f n : Int) :: fl (byA (rcB f (bst f n) n)) (nB (rcN f (bst f n) n)) := by rw [hB]; rfl
  rw [← hB2] at u
  have hl : (smL n).length + 1 ≤ B.length := by rw [hB2, List.length_append, List.length_cons]; omega
  refine ⟨by rw [u]; simp, hb, by simp, by simp [fl], smL n ++ [(bst f n : Int)], by rw [hB]; simp, ?_⟩
  rw [List.length_append]
  simp [rcN]
  omega
theorem Vld.runs {f : Nat → Int} {n : Nat} {B : List Int} (h : Vld 3 f n B) : RnI B n [] (8 * (smL n).length) f := by
  have hB := h.is.2.2
  simp only [cdL, Nat.reduceEqDiff, if_false, if_true] at hB
  exact ⟨by simp, by simp [fl], smL n, by simpa using hB, rfl⟩
theorem Vld.steps {f : Nat → Int} {n : Nat} {B : List Int} (h : Vld 4 f n B) : B = smL n ++ stL f n := by
  have := h.is.2.2
  simpa [cdL] using this
theorem Vld.no {f : Nat → Int} {n : Nat} {B : List Int} (h : Vld 0 f n B) : False := by
  have := h.1
  simp [cmOk] at this

/-- tones out of bytes are answered: all of them where a codec made the bytes -/
def TnR (c : Nat) (B : List Int) (w : World) (e : Ending) (w' : World) : Prop := ∃ (L : List Int) (v : Value), e = .returned v ∧ Hid (L.length ≤ 65536 ∧ (∀ f n, Vld c f n B → L = fl f n) ∧ w'.ownsRow w.heap.size 2 1 v L.length (ints L) ∧ Below w.heap.size w w')
theorem TnR.of {c : Nat} {B : List Int} {w W1 w2 w' : World} (hb1 : Below w.heap.size w W1) (hs1 : W1.heap.size = w.heap.size + 1) (hk1 : KpS (· = w.heap.size) W1 w2) (hk2 : KpS (· = w.heap.size) w2 w') {L : List Int} {v : Value} (hl : L.length ≤ 65536) (hv : ∀ f n, Vld c f n B → L = fl f n) (ho : w'.ownsRow w2.heap.size 2 1 v L.length (ints L)) : TnR c B w (.returned v) w' := by
  have hsz := hk1.size
  refine ⟨L, v, rfl, hl, hv, ?_, ?_⟩
  · obtain ⟨h5, h6⟩ := ho
    refine ⟨h5, ?_⟩
    rcases h6 with h6 | ⟨b', cap', cur, hv, hB, hh, hn, hc, hs, ht⟩
    · exact .inl h6
    · exact .inr ⟨b', cap', cur, hv, by omega, hh, hn, hc, hs, ht⟩
  · exact hb1.trans ((hk1.trans hk2).below (fun b hb => by omega) (by omega))

set_option maxRecDepth 100000 in
theorem tonesIn_any (a : Option Addr) (cap : Nat) (B : List Int) (hN : B.length ≤ 1048576) (hg : ∀ k, k < B.length → 0 ≤ gB B k ∧ gB B k ≤ 255) (c : Nat) (hc : c ≤ 4) (w : World) (hP : PxU a B.length (gB B) w) :
    Calls Try.prog 39 #[.slice a B.length cap, .int .i64 c] w (TnR c B w) := by
  let W1 := w.alloc (.cells #[.slice a B.length cap, .int .i64 0] 66)
  have hb1 : Below w.heap.size w W1 := bnew _ _
  have hs1 : W1.heap.size = w.heap.size + 1 := by simp [W1]
  have hap : B.length ≠ 0 → ∀ b off, a = some ⟨b, off, none⟩ → b < w.heap.size := fun h0 b off ha => by
    rcases hP with h | ⟨b', off', ha', hc'⟩
    · exact absurd h h0
    · rw [ha'] at ha
      cases ha
      exact World.block_lt_of_cell? w _ (hc' 0 (by omega))
  have cS := takeSmall_any w.heap.size a B.length cap 0 (gB B) hN hg (by omega) W1 (Bx.new [.slice a B.length cap, .int .i64 0] _ w) (hP.below hb1) (fun h0 b off ha => by have := hap h0 b off ha; omega)
  have bd := ts_bd (gB B) B.length 0 (by omega)
  obtain ⟨V, hV⟩ : ∃ V : Nat, tsV (gB B) B.length 0 = V := ⟨(tsV (gB B) B.length 0).toNat, by omega⟩
  have hct : ∀ f n, Vld c f n B → n = min V 65536 ∧ tsO (gB B) B.length 0 = 8 * (smL n).length ∧ tnB f n := fun f n h => by
    have h1 := h.count
    have h2 := h.is
    rw [hV] at h1
    exact ⟨by omega, h1.2, h2.2.1⟩
  generalize hO : tsO (gB B) B.length 0 = O at *
  rw [hV] at cS
  have HX : Hid (∀ w2, KpS (· = w.heap.size) W1 w2 → PxU a B.length (gB B) w2 ∧ w.heap.size < w2.heap.size ∧ (B.length ≠ 0 → ∀ b off, a = some ⟨b, off, none⟩ → ¬ b = w.heap.size ∧ b < w2.heap.size)) := fun w2 hk => by
    have hsz := hk.size
    exact ⟨hk.pxU (fun h0 b off ha => by have := hap h0 b off ha; omega) (hP.below hb1), by omega, fun h0 b off ha => by have := hap h0 b off ha; omega⟩
  have hn6 : min V 65536 ≤ 65536 := by omega
  have hmn : min (V : Int) 65536 = ((min V 65536 : Nat) : Int) := by omega
  generalize min V 65536 = n at *
  have HB1 := hide hb1
  have HS1 := hide hs1
  have HCT := hide hct
  have HG := hide hg
  have HO := hide bd.2.2.2
  clear hP hap hb1 hs1 hct hg bd hV hO
  obtain rfl | rfl | rfl | rfl | rfl : c = 0 ∨ c = 1 ∨ c = 2 ∨ c = 3 ∨ c = 4 := by omega
  · go_enter Try.func39, Try.ntmps39
    go_wp2_with fail
    refine cS.mono ?_
    rintro e w2 ⟨rfl, hk2, hb2⟩
    have HF : Hid (TnR 0 B w (.returned (.slice none 0 0)) w2) := TnR.of HB1.out HS1.out hk2 (KpS.refl _ _) (L := []) (by simp) (fun f n h => h.no.elim) (World.ownsRow_nil _ _ _ _)
    clear cS hk2 hb2 HX HB1 HS1 HCT HG HO
    go_wp2_with fail
    go_ret
    exact HF.out
  · go_enter Try.func39, Try.ntmps39
    go_wp2_with fail
    refine cS.mono ?_
    rintro e w2 ⟨rfl, hk2, hb2⟩
    have x := HX.out w2 hk2
    have cT : Calls Try.prog 48 #[.pointer (some ⟨w.heap.size, 0, none⟩), .int .i64 n, .int .i64 16] w2 (TnR 1 B w) := by
      refine (takeBits_any w.heap.size a B.length cap O (gB B) hN HG.out HO.out n 16 (by omega) (by omega) w2 hb2 x.1 x.2.2 x.2.1).mono ?_
      rintro e w' ⟨c, v, h1, h2, -, rfl, h4, h5, -⟩
      refine TnR.of HB1.out HS1.out hk2 h5 (L := fl (rdF (gB B) B.length O 16) c) (by rw [fl_len]; omega) (fun f m h => ?_) (by rw [fl_len]; exact h4)
      obtain ⟨rfl, hO, hf⟩ := HCT.out f m h
      rw [hO] at h2 ⊢
      exact (pl_all f m hf (smL m) B h.plain c h1 h2).2
    clear cS hk2 hb2 HX HB1 HS1 HCT HG HO x
    go_wp2_with fail
    refine cT.mono ?_
    rintro e w' ⟨L, v, rfl, HF⟩
    clear cT
    go_wp2_with fail
    go_ret
    exact ⟨L, v, rfl, HF⟩
  · go_enter Try.func39, Try.ntmps39
    go_wp2_with fail
    refine cS.mono ?_
    rintro e w2 ⟨rfl, hk2, hb2⟩
    have x := HX.out w2 hk2
    have cT : Calls Try.prog 49 #[.pointer (some ⟨w.heap.size, 0, none⟩), .int .i64 n] w2 (TnR 2 B w) := by
      refine (takeRice_any w.heap.size a cap O B hN HG.out HO.out n hn6 w2 hb2 x.1 x.2.2 x.2.1).mono ?_
      rintro e w' ⟨L, v, h1, h2, rfl, h4, h5⟩
      refine TnR.of HB1.out HS1.out hk2 h5 (L := L) (by omega) (fun f m h => ?_) h4
      obtain ⟨rfl, hO, hf⟩ := HCT.out f m h
      have r := h.rice
      rw [← hO] at r
      exact h2 f hf (by rw [r.1]; exact r.2)
    clear cS hk2 hb2 HX HB1 HS1 HCT HG HO x
    go_wp2_with fail
    refine cT.mono ?_
    rintro e w' ⟨L, v, rfl, HF⟩
    clear cT
    go_wp2_with fail
    go_ret
    exact ⟨L, v, rfl, HF⟩
  · go_enter Try.func39, Try.ntmps39
    go_wp2_with fail
    refine cS.mono ?_
    rintro e w2 ⟨rfl, hk2, hb2⟩
    have x := HX.out w2 hk2
    have cT : Calls Try.prog 50 #[.pointer (some ⟨w.heap.size, 0, none⟩), .int .i64 n] w2 (TnR 3 B w) := by
      refine (takeRuns_any w.heap.size a cap O B hN HG.out HO.out n hn6 w2 hb2 x.1 x.2.2 x.2.1).mono ?_
      rintro e w' ⟨L, v, h1, h2, rfl, h4, h5⟩
      refine TnR.of HB1.out HS1.out hk2 h5 (L := L) (by omega) (fun f m h => ?_) h4
      obtain ⟨rfl, hO, hf⟩ := HCT.out f m h
      have r := h.runs
      rw [← hO] at r
      exact h2 f hf r
    clear cS hk2 hb2 HX HB1 HS1 HCT HG HO x
    go_wp2_with fail
    refine cT.mono ?_
    rintro e w' ⟨L, v, rfl, HF⟩
    clear cT
    go_wp2_with fail
    go_ret
    exact ⟨L, v, rfl, HF⟩
  · go_enter Try.func39, Try.ntmps39
    go_wp2_with fail
    refine cS.mono ?_
    rintro e w2 ⟨rfl, hk2, hb2⟩
    have x := HX.out w2 hk2
    have cT : Calls Try.prog 51 #[.pointer (some ⟨w.heap.size, 0, none⟩), .int .i64 n] w2 (TnR 4 B w) := by
      refine (takeSteps_any w.heap.size a B.length cap O (gB B) hN HG.out HO.out n hn6 w2 hb2 x.1 x.2.2 x.2.1).mono ?_
      rintro e w' ⟨c, v, h1, h2, rfl, h4, h5⟩
      refine TnR.of HB1.out HS1.out hk2 h5 (L := fl (spF (gB B) B.length O) c) (by rw [fl_len]; omega) (fun f m h => ?_) (by rw [fl_len]; exact h4)
      obtain ⟨rfl, hO, hf⟩ := HCT.out f m h
      rw [hO] at h2 ⊢
      exact (sp_all f m hf (smL m) B h.steps c h1 h2).2
    clear cS hk2 hb2 HX HB1 HS1 HCT HG HO x
    go_wp2_with fail
    refine cT.mono ?_
    rintro e w' ⟨L, v, rfl, HF⟩
    clear cT
    go_wp2_with fail
    go_ret
    exact ⟨L, v, rfl, HF⟩

end Go.Proofs.Ytebcclmilplfcaa
