/- Slope, the program. -/
import Derived.Test.YtlpfgmkkbplddaaL2a
import Derived.Test.YtlpfgmkkbplddaaSpt
import Derived.Lib.MinMax
namespace Go.Proofs.Ytlpfgmkkbplddaa
open Go.RowKit

/-- to the right, down -/
def ahdF : Nat → Int
  | 0 => 1 | 1 => 0 | 2 => 0 | 3 => 1 | _ => 0
theorem ahdF_bd : ∀ j, j < 2 * 2 → -64 ≤ ahdF j ∧ ahdF j ≤ 64 := by decide
def slpS (W H : Int) (f : Nat → Int) (j : Nat) : Int := vis W H j ahdF (fun _ q v => v + max (f q.toNat - f j) (-(f q.toNat - f j))) 0 2
def slpB (W H : Int) (n : Nat) (f : Nat → Int) : Bool := okB W H n f && allB (slpS W H f) n

theorem allB_at {f : Nat → Int} {n k : Nat} (h : allB f n = true) (hk : k < n) : -1000000000 ≤ f k ∧ f k ≤ 1000000000 := by
  have := alW_at (by rw [alW_allB]; exact h) hk
  unfold inB at this
  simpa using this
theorem okB_ok {W H : Int} {n : Nat} {f : Nat → Int} (h : okB W H n f = true) : (1 ≤ W ∧ W ≤ 64) ∧ (1 ≤ H ∧ H ≤ 64) ∧ (n : Int) = W * H ∧ 1 ≤ n ∧ n ≤ 4096 ∧ ∀ k, k < n → -1000000000 ≤ f k ∧ f k ≤ 1000000000 := by
  obtain ⟨q1, q2, q3, q4⟩ := okB_parts h
  have := prod_bounds q1 q2
  exact ⟨side_bounds q1, side_bounds q2, q3, by omega, by omega, fun k hk => allB_at q4 hk⟩
theorem okB_and {W H : Int} {n : Nat} {f F : Nat → Int} (h : okB W H n f = true) : okB W H n F = allB F n := by
  unfold okB at h ⊢
  simp only [Bool.and_eq_true] at h
  rw [h.1.1.1, h.1.1.2, h.1.2]
  rfl
theorem bd_at {f : Nat → Int} {n : Nat} {q : Int} (hf : ∀ k, k < n → -1000000000 ≤ f k ∧ f k ≤ 1000000000) (h0 : 0 ≤ q) (h1 : q < n) : -1000000000 ≤ f q.toNat ∧ f q.toNat ≤ 1000000000 := hf _ (by omega)
theorem slp_bd {W H : Int} {n : Nat} {f : Nat → Int} (hn : (n : Int) = W * H) (hf : ∀ k, k < n → -1000000000 ≤ f k ∧ f k ≤ 1000000000) (j : Nat) (hj : j < n) (p : Int) (m : Nat) : 0 ≤ vis W H p ahdF (fun _ q v => v + max (f q.toNat - f j) (-(f q.toNat - f j))) 0 m ∧ vis W H p ahdF (fun _ q v => v + max (f q.toNat - f j) (-(f q.toNat - f j))) 0 m ≤ 2000000000 * (m : Int) := by
  refine vis_ind (P := fun k v => 0 ≤ v ∧ v ≤ 2000000000 * (k : Int)) (by omega) ?_ (fun k v _ _ h => by omega)
  intro k v _ hq hv
  obtain ⟨q0, q1⟩ := place_lt hq hn
  have h1 := bd_at hf q0 q1
  have h2 := hf j hj
  generalize f j = fj at *
  generalize f (Int.toNat _) = fq at *
  omega

set_option maxRecDepth 100000 in
theorem slpVis_fn : ∀ ar w, Sem.run Try.prog (callFunc 94 ar) w = .ok (.enter 94 ar) w := fun _ _ => rfl
set_option maxRecDepth 100000 in
theorem slpPix_fn : ∀ ar w, Sem.run Try.prog (callFunc 93 ar) w = .ok (.enter 93 ar) w := fun _ _ => rfl

set_option maxRecDepth 100000 in
set_option maxHeartbeats 1000000 in
theorem slpVis_any (W H : Int) (a : Option Addr) (n cap : Nat) (f : Nat → Int) (k q v : Int) (p : Nat) (h0 : 0 ≤ q) (h1 : q < n) (hp : p < n) (c bp bs : Nat) (w : World) (hfq : -1000000000 ≤ f q.toNat ∧ f q.toNat ≤ 1000000000) (hfp : -1000000000 ≤ f p ∧ f p ≤ 1000000000) (hv : 0 ≤ v ∧ v ≤ 4000000000)
    (hz : Bx c [.int .i64 v] w) (hs : Bx bs [.int .i64 p] w) (hb : Bx bp [.int .i64 W, .int .i64 H, .slice a n cap] w) (hx : Px a n f w) :
    Calls Try.prog 94 #[.int .i64 k, .int .i64 q, .pointer (some ⟨bp, 0, none⟩), .pointer (some ⟨bs, 0, none⟩), .pointer (some ⟨c, 0, none⟩)] w fun e w' => e = .returned (.tuple #[]) ∧ KpS (· = c) w w' ∧ Bx c [.int .i64 (v + max (f q.toNat - f p) (-(f q.toNat - f p)))] w' := by
  obtain ⟨b, off, rfl, hy⟩ := hx.at' h0 h1
  obtain ⟨_, _, heq, hy2⟩ := hx.at hp
  cases heq
  obtain ⟨z0, z1⟩ := hz 0 _ rfl
  have s0 := (hs 0 _ rfl).1
  have p2 := (hb 2 _ rfl).1
  obtain ⟨a1, a2⟩ := hfq
  obtain ⟨a3, a4⟩ := hfp
  obtain ⟨a5, a6⟩ := hv
  have hpn : (p : Int) < n := by omega
  generalize f q.toNat = y at *
  generalize f p = yp at *
  have HZ := hide (hz.set 0 (.int .i64 (v + max (y - yp) (-(y - yp)))))
  have HK := hide ((KpS.refl (· = c) w).setCell (a := ⟨c, 0, none⟩) rfl (.int .i64 (v + max (y - yp) (-(y - yp)))))
  have ew : IntKind.i64.wrap (y - yp) = y - yp := by rw [IntKind.wrap_i64]; omega
  clear hx hz hb hs
  go_enter Try.func94, Try.ntmps94
  go_wp2_with fail
  go_region
  obtain ⟨st, hst⟩ : ∃ st, y - yp = st := ⟨_, rfl⟩
  rw [hst] at HZ HK ⊢
  have b1 : -2000000000 ≤ st := by omega
  have b2 : st ≤ 2000000000 := by omega
  have b3 : 0 ≤ max st (-st) := by omega
  have b4 : max st (-st) ≤ 2000000000 := by omega
  have HST := hide hst
  clear hst ew
  go_wp2_with fail
  go_end0
  exact ⟨rfl, HK.out.drew, by rw [HST.out]; exact HZ.out⟩

set_option maxRecDepth 100000 in
set_option maxHeartbeats 1000000 in
theorem slpPix_any (W H : Int) (p : Nat) (a : Option Addr) (n cap : Nat) (f : Nat → Int) (hn : (n : Int) = W * H) (hW : 1 ≤ W) (hW' : W ≤ 64) (hH : 1 ≤ H) (hH' : H ≤ 64) (hp : p < n) (hp' : p < 4096) (hf : ∀ k, k < n → -1000000000 ≤ f k ∧ f k ≤ 1000000000)
    (a2 : Option Addr) (cap2 : Nat) (bp bq : Nat) (w : World)
    (hb : Bx bp [.int .i64 W, .int .i64 H, .slice a n cap] w) (hq : Bx bq [.slice a2 2 cap2] w) (hx : Px a n f w) (hy : Px a2 (2 * 2) ahdF w) :
    Calls Try.prog 93 #[.int .i64 p, .pointer (some ⟨bp, 0, none⟩), .pointer (some ⟨bq, 0, none⟩)] w fun e w' => e = .returned (.int .i64 (slpS W H f p)) ∧ Below w.heap.size w w' := by
  have hbp : bp < w.heap.size := World.block_lt_of_cell? w ⟨bp, 0, none⟩ (hb 0 _ rfl).1
  have hbq : bq < w.heap.size := World.block_lt_of_cell? w ⟨bq, 0, none⟩ (hq 0 _ rfl).1
  have HS0 := hide (((St.start w).box [.int .i64 p] 2).box' [.int .i64 0] 2 (b := w.heap.size + 1) (by simp))
  have hw1 := HS0.out.below
  obtain ⟨w2, hw2⟩ : ∃ w2, (w.alloc (.cells #[.int .i64 p] 2)).alloc (.cells #[.int .i64 0] 2) = w2 := ⟨_, rfl⟩
  have hz2 : w2.heap.size = w.heap.size + 2 := by rw [← hw2]; simp
  have HS1 : Hid (St w [(w.heap.size + 1, [.int .i64 0]), (w.heap.size, [.int .i64 p])] [] w2) := by rw [← hw2]; exact HS0.out
  have hbl := HS1.out.below
  have h1 : ∀ wr, KpS (· = w.heap.size + 1) w2 wr → Bx bp [.int .i64 W, .int .i64 H, .slice a n cap] wr ∧ Bx w.heap.size [.int .i64 p] wr ∧ Px a n f wr := by
    intro wr hk
    refine ⟨hk.bx (by show bp ≠ _; omega) (by omega) (hb.below hbl hbp), hk.bx (by show w.heap.size ≠ _; omega) (by omega) (HS1.out.bx (w.heap.size, [.int .i64 p]) (by simp)), ?_⟩
    exact hk.px (fun b off e => hx.block_ne (by omega) (by omega) b off e) (hx.below hbl)
  have cV := visitFold_any W H p a2 2 cap2 ahdF (by omega) hW hW' hH hH' (by omega) (by omega) ahdF_bd _ slpVis_fn #[.pointer (some ⟨bp, 0, none⟩), .pointer (some ⟨w.heap.size, 0, none⟩), .pointer (some ⟨w.heap.size + 1, 0, none⟩)] (fun _ q v => v + max (f q.toNat - f p) (-(f q.toNat - f p))) 0 (w.heap.size + 1) w2 (by omega)
    (HS1.out.bx (w.heap.size + 1, [.int .i64 0]) (by simp)) (hy.below hbl) (fun b off h0 e => hy.block_ne (by omega) (by omega) b off e)
    (fun k wr hk2 hq hk hbx => by
      obtain ⟨q0, q1⟩ := place_lt hq hn
      have hvb := slp_bd hn hf p hp p k
      exact slpVis_any W H a n cap f k _ _ p q0 q1 hp (w.heap.size + 1) bp w.heap.size wr (bd_at hf q0 q1) (hf p hp) (by omega) hbx (h1 wr hk).2.1 (h1 wr hk).1 (h1 wr hk).2.2)
  obtain ⟨p0, p1, p2⟩ : w2.cell? ⟨bp, 0, none⟩ = some (.int .i64 W) ∧ w2.cell? ⟨bp, 1, none⟩ = some (.int .i64 H) ∧ w2.cell? ⟨bp, 2, none⟩ = some (.slice a n cap) := by
    have := hb.below hbl hbp
    exact ⟨(this 0 _ rfl).1, (this 1 _ rfl).1, (this 2 _ rfl).1⟩
  have q0 := ((hq.below hbl hbq) 0 _ rfl).1
  have s0 := HS1.out.cell 1 rfl 0 rfl
  clear hb hq hx hy h1 hw1
  unfold slpS
  generalize vis W H p ahdF (fun _ q v => v + max (f q.toNat - f p) (-(f q.toNat - f p))) 0 2 = R at *
  have HW2 := hide hw2
  clear hf hn hbl hz2 hw2
  go_enter Try.func93, Try.ntmps93
  go_upto_region 2 with fail
  rw [HW2.out]
  go_wp2_with fail
  refine cV.mono ?_
  rintro e w3 ⟨rfl, hk, hbx⟩
  have r0 := (hbx 0 _ rfl).1
  have HB : Hid (Below w.heap.size w w3) := HS1.out.below.trans (hk.below (fun b h => by subst h; omega) HS1.out.below.size)
  clear hk hbx cV
  go_wp2_with fail
  go_ret
  exact ⟨rfl, HB.out⟩

set_option maxRecDepth 100000 in
set_option maxHeartbeats 2000000 in
theorem implSlope_any (W H : Int) (a : Option Addr) (n cap : Nat) (f : Nat → Int) (hl : n ≤ 1048576) (w : World) (h : Px a n f w) :
    Calls Try.prog 45 #[im W H a n cap] w (ImR (pickI (slpB W H n f) W) (pickI (slpB W H n f) H) (pickN (slpB W H n f) n) (slpS W H f) w) := by
  have HS0 := hide (((St.start w).box [.int .i64 W, .int .i64 H, .slice a n cap] 26).box' [.int .i64 0, .int .i64 0, .slice none 0 0] 26 (b := w.heap.size + 1) (by simp))
  have HP := hide h
  have cM := implOk_any W H a n cap f hl _ (h.below HS0.out.below)
  clear h
  unfold slpB
  cases hq : okB W H n f
  · rw [hq] at cM
    rw [Bool.false_and, pickI_f, pickI_f, pickN_f]
    clear hq
    go_enter Try.func45, Try.ntmps45
    go_wp2_with fail
    refine cM.mono ?_
    rintro e w1 ⟨rfl, hb⟩
    have HS1 := hide (HS0.out.next hb)
    obtain ⟨z0, z1, z2⟩ := HS1.out.im3 0 rfl
    obtain ⟨e0, e1, e2⟩ := HS1.out.fr3 0 rfl
    clear cM hb HS0
    go_wp2_with fail
    exact bodyPost_ret (v := im 0 0 none 0 0) (by simp [results, Try.results45, go_sem, z0, z1, z2]) rfl ((HS1.out.fill3 _ _ _).imN _)
  rw [hq] at cM
  rw [Bool.true_and]
  obtain ⟨⟨hW, hW'⟩, ⟨hH, hH'⟩, hn, hn1, hn4, hf⟩ := okB_ok hq
  have cI := fun x c w' h => image_any W H x n c (slpS W H f) hl w' h
  rw [okB_and hq] at cI
  have cP := fun w' => pictureOf_any W H a n cap w'
  have HF := hide (fun bp bq x2 c2 w' (hb : Bx bp [.int .i64 W, .int .i64 H, .slice a n cap] w') (hbq : Bx bq [.slice x2 2 c2] w') (hx : Px a n f w') (hy : Px x2 (2 * 2) ahdF w') =>
    filtered_any W H a n cap hl _ slpPix_fn #[.pointer (some ⟨bp, 0, none⟩), .pointer (some ⟨bq, 0, none⟩)] (slpS W H f) w'
      (fun k wr hk hbr => slpPix_any W H k a n cap f hn hW hW' hH hH' hk (by omega) hf x2 c2 bp bq wr
        (hb.below hbr (World.block_lt_of_cell? w' ⟨bp, 0, none⟩ (hb 0 _ rfl).1)) (hbq.below hbr (World.block_lt_of_cell? w' ⟨bq, 0, none⟩ (hbq 0 _ rfl).1)) (hx.below hbr) (hy.below hbr)))
  clear hq hW hW' hH hH' hn hn1 hf
  generalize allB (slpS W H f) n = D at *
  go_enter Try.func45, Try.ntmps45
  go_wp2_with fail
  refine cM.mono ?_
  rintro e w2 ⟨rfl, hb⟩
  have HS2 := hide (HS0.out.next hb)
  obtain ⟨i0, i1, i2⟩ := HS2.out.im3 1 rfl
  clear cM hb HS0
  go_wp2_with fail
  refine (cP _).mono ?_
  rintro e w3 ⟨rfl, hb⟩
  have HS3 := hide (HS2.out.next hb)
  have hrow : Row w3.heap.size (2 * 2) ahdF (w3.alloc (.cells #[.int .i64 1, .int .i64 0, .int .i64 0, .int .i64 1] 35)) := by
    intro k hk
    have h : k = 0 ∨ k = 1 ∨ k = 2 ∨ k = 3 := by omega
    rcases h with rfl | rfl | rfl | rfl <;> simp [go_sem, ahdF]
  have HS4 := hide (((HS3.out.own (bnew w3 (.cells #[.int .i64 1, .int .i64 0, .int .i64 0, .int .i64 1] 35)) hrow.v (.inr (Nat.le_refl _))).box' [.int .i64 W, .int .i64 H, .slice a n cap] 67 (b := w3.heap.size + 1) (by simp)).box' [.slice (some ⟨w3.heap.size, 0, none⟩) 2 2] 27 (b := w3.heap.size + 2) (by simp))
  have cF := HF.out (w3.heap.size + 1) (w3.heap.size + 2) (some ⟨w3.heap.size, 0, none⟩) 2 _ (HS4.out.bx (w3.heap.size + 1, [.int .i64 W, .int .i64 H, .slice a n cap]) (by simp)) (HS4.out.bx (w3.heap.size + 2, [.slice (some ⟨w3.heap.size, 0, none⟩) 2 2]) (by simp)) (HP.out.below HS4.out.below) (HS4.out.nthO 0 rfl).px
  clear cP hb hrow HS3 HF HS2 i0 i1 i2
  go_wp2_with fail
  refine cF.mono ?_
  rintro e w5 ⟨a5, c5, b5, rfl, ho, h1, hb⟩
  have HS5 := hide (HS4.out.own hb ho.v h1)
  clear cF ho h1 hb HS4
  go_wp2_with fail
  refine (cI _ _ _ (HS5.out.nthO 0 rfl).px).mono ?_
  rintro e w6 ⟨rfl, hb⟩
  have HS6 := hide (HS5.out.next hb)
  obtain ⟨z0, z1, z2⟩ := HS6.out.im3 2 rfl
  obtain ⟨e0, e1, e2⟩ := HS6.out.fr3 2 rfl
  clear cI hb HS5
  cases D
  · rw [pickI_f, pickI_f, pickN_f, if_neg (by simp)]
    go_wp2_with fail
    exact bodyPost_ret (v := im 0 0 none 0 0) (by simp [results, Try.results45, go_sem, z0, z1, z2]) rfl ((HS6.out.fill3' (L1 := [_, _]) _ _ _).imN _)
  · rw [pickI_t, pickI_t, pickN_t, if_pos rfl]
    go_wp2_with fail
    exact bodyPost_ret (v := im W H a5 n c5) (by simp [results, Try.results45, go_sem, z0, z1, z2]) rfl ((HS6.out.fill3' (L1 := [_, _]) _ _ _).imR W H c5)

end Go.Proofs.Ytlpfgmkkbplddaa
