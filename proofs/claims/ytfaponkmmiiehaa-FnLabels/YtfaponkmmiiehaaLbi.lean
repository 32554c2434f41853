/- Label, the program: the whole. -/
import Derived.Test.YtfaponkmmiiehaaLbq
import Derived.Test.YtfaponkmmiiehaaG8w
namespace Go.Proofs.Ytfaponkmmiiehaa
open Go.RowKit

theorem maskB_okL {W H : Int} {n : Nat} {f : Nat → Int} (h : maskB W H n f = true) : okB W H n f = true ∧ (1 ≤ W ∧ W ≤ 64) ∧ (1 ≤ H ∧ H ≤ 64) ∧ (n : Int) = W * H ∧ 1 ≤ n ∧ n ≤ 4096 ∧ bit1 f n := by
  obtain ⟨h1, h2, h3⟩ := maskB_parts h
  obtain ⟨q1, q2, q3, _⟩ := okB_parts h1
  have := prod_bounds q1 q2
  exact ⟨h1, side_bounds q1, side_bounds q2, q3, by omega, h2, h3⟩
theorem St.recast {w0 : World} {L : List BoxT} {O : List OwnT} {w : World} {a : Option Addr} {b n : Nat} {f f' : Nat → Int} (h : St w0 L ((a, b, n, fun q => .int .i64 (f q)) :: O) w) (e : ∀ q, q < n → f q = f' q) : St w0 L ((a, b, n, fun q => .int .i64 (f' q)) :: O) w :=
  St.mark (O1 := []) h (Kept.refl _ _) (by
    rcases (h.nthO 0 rfl).bk with h0 | ⟨h1, h2⟩
    · exact .inl h0
    · exact .inr ⟨h1, fun q hq => by show _ = some (Value.int .i64 (f' q)) ∧ _; rw [← e q hq]; exact h2 q hq⟩)
/-- the labels of a mask -/
noncomputable def labV (W H : Int) (n : Nat) (f : Nat → Int) : Nat → Int := (lb n f (nbs W H besF) n).1

theorem encL_zero {f : Nat → Int} {n k : Nat} (hb : bit1 f n) (hk : k < n) : encL f (fun _ => 0) k = f k * -1 := by
  unfold encL
  rcases hb k hk with h | h <;> rw [h] <;> rfl
set_option maxRecDepth 100000 in
set_option maxHeartbeats 1000000 in
theorem labPix_any (W H : Int) (k : Nat) (a : Option Addr) (n cap : Nat) (f : Nat → Int) (hb : bit1 f n) (hk : k < n) (bp : Nat) (w : World) (hp : Bx bp [.int .i64 W, .int .i64 H, .slice a n cap] w) (hx : Px a n f w) :
    Calls Try.prog 23 #[.int .i64 k, .pointer (some ⟨bp, 0, none⟩)] w fun e w' => e = .returned (.int .i64 (encL f (fun _ => 0) k)) ∧ Below w.heap.size w w' := by
  rw [encL_zero hb hk]
  obtain ⟨b, off, rfl, hy⟩ := hx.at hk
  have p2 := (hp 2 _ rfl).1
  have h2 := hb k hk
  clear hb hp hx
  generalize f k = y at *
  rcases h2 with rfl | rfl
  all_goals
    go_enter Try.func23, Try.ntmps23
    go_wp2_with fail
    go_ret
    exact ⟨rfl, Below.refl _ _⟩
set_option maxRecDepth 100000 in
theorem labPix_fn : ∀ ar w, Sem.run Try.prog (callFunc 23 ar) w = .ok (.enter 23 ar) w := fun _ _ => rfl

theorem encL_one {f l : Nat → Int} {n q : Nat} (hl : 0 ≤ l q) (hq : q < n) : encL f l q = -1 ↔ Fre n f l q := by
  have := encL_free (f := f) (l := l) (c := 1) (A := []) (q := q) (n := n) (by omega) hl hq
  rw [lbA_nil] at this
  simpa using this
theorem encL_end {f l : Nat → Int} {q : Nat} (h : f q = 1 → l q ≠ 0) : encL f l q = l q := by
  unfold encL
  rw [if_neg]
  rintro ⟨h1, h2⟩
  exact h h1 h2

set_option maxRecDepth 100000 in
set_option maxHeartbeats 4000000 in
theorem implLabel_any (W H : Int) (a : Option Addr) (n cap : Nat) (f : Nat → Int) (hl : n ≤ 1048576) (w : World) (h : Px a n f w) :
    Calls Try.prog 8 #[im W H a n cap] w (ImR (pickI (maskB W H n f) W) (pickI (maskB W H n f) H) (pickN (maskB W H n f) n) (labV W H n f) w) := by
  have HS0 := hide (((St.start w).box [.int .i64 W, .int .i64 H, .slice a n cap] 26).box' [.int .i64 0, .int .i64 0, .slice none 0 0] 26 (b := w.heap.size + 1) (by simp))
  have HP := hide h
  have cM := isMask_any W H a n cap f hl _ (h.below HS0.out.below)
  clear h
  cases hq : maskB W H n f
  · rw [hq] at cM
    rw [pickI_f, pickI_f, pickN_f]
    clear hq
    go_enter Try.func8, Try.ntmps8
    go_wp2_with fail
    refine cM.mono ?_
    rintro e w1 ⟨rfl, hb⟩
    have HS1 := hide (HS0.out.next hb)
    obtain ⟨z0, z1, z2⟩ := HS1.out.im3 0 rfl
    obtain ⟨e0, e1, e2⟩ := HS1.out.fr3 0 rfl
    clear cM hb HS0
    go_wp2_with fail
    exact bodyPost_ret (v := im 0 0 none 0 0) (by simp [results, Try.results8, go_sem, z0, z1, z2]) rfl ((HS1.out.fill3 _ _ _).imN _)
  rw [hq] at cM
  rw [pickI_t, pickI_t, pickN_t]
  obtain ⟨hok, ⟨hW, hW'⟩, ⟨hH, hH'⟩, hn, hn1, hn4, hbit⟩ := maskB_okL hq
  have hbd := lb_bd n f (nbs W H besF)
  have hokF : okB W H n (labV W H n f) = true := okB_of hok (fun k hk => by have := hbd n k; unfold labV; omega)
  have cI := fun x c w' h => image_any W H x n c (labV W H n f) hl w' h
  rw [hokF] at cI
  simp only [if_true] at cI
  have cP := fun w' => pictureOf_any W H a n cap w'
  have HF := hide (fun bp w' (hb : Bx bp [.int .i64 W, .int .i64 H, .slice a n cap] w') (hx : Px a n f w') =>
    filtered_any W H a n cap hl _ labPix_fn #[.pointer (some ⟨bp, 0, none⟩)] (encL f (fun _ => 0)) w'
      (fun k wr hk hbr => labPix_any W H k a n cap f hbit hk bp wr (hb.below hbr (World.block_lt_of_cell? w' ⟨bp, 0, none⟩ (hb 0 _ rfl).1)) (hx.below hbr)))
  have HSp := hide (fun (k : Nat) b c w' (hf : Fre n f (lb n f (nbs W H besF) k).1 k) (hr : Row b n (encL f (lb n f (nbs W H besF) k).1) w') =>
    spread_any W H b n c f (lb n f (nbs W H besF) k).1 ((lb n f (nbs W H besF) k).2 + 1) k hn hW hW' hH hH' hn4 (by have := lb_cnt n f (nbs W H besF) k; omega) (fun q => (hbd k q).1) hf w' hr)
  have HEnd : Hid (∀ q, q < n → encL f (lb n f (nbs W H besF) n).1 q = labV W H n f q) := fun q hq => encL_end (fun h => lb_done n f _ n q hq hq h)
  have HBd := hide hbd
  clear hq hok hW hW' hH hH' hn hbit hokF hbd
  go_enter Try.func8, Try.ntmps8
  go_wp2_with fail
  refine cM.mono ?_
  rintro e w1 ⟨rfl, hb⟩
  have HS1 := hide (HS0.out.next hb)
  obtain ⟨i0, i1, i2⟩ := HS1.out.im3 1 rfl
  clear cM hb HS0
  go_wp2_with fail
  refine (cP _).mono ?_
  rintro e w2 ⟨rfl, hb⟩
  have HS2 := hide ((HS1.out.next hb).box [.int .i64 W, .int .i64 H, .slice a n cap] 44)
  clear cP hb HS1 i0 i1 i2
  have cF := HF.out w2.heap.size _ (HS2.out.bx (w2.heap.size, [.int .i64 W, .int .i64 H, .slice a n cap]) (by simp)) (HP.out.below HS2.out.below)
  clear HF
  go_wp2_with fail
  refine cF.mono ?_
  rintro e w3 ⟨a3, c3, b3, rfl, ho, h1, hb⟩
  have ha3 : a3 = some ⟨b3, 0, none⟩ := by
    rcases ho with h0 | ⟨h0, -⟩
    · omega
    · exact h0
  subst ha3
  have HS3 := hide ((HS2.out.own hb ho.v h1).box [.int .i64 W, .int .i64 H, .slice (some ⟨b3, 0, none⟩) n c3] 44)
  clear cF ho h1 hb HS2
  generalize hx : World.alloc _ (.cells [.int .i64 W, .int .i64 H, .slice (some ⟨b3, 0, none⟩) n c3].toArray 44) = w4 at HS3
  have hy : World.alloc _ (.cells #[.int .i64 W, .int .i64 H, .slice (some ⟨b3, 0, none⟩) n c3] 44) = w4 := hx
  clear hx
  obtain ⟨i0, i1, i2⟩ := HS3.out.im3 0 rfl
  go_wp2_with fail
  clear hy i0 i1 i2
  go_loopw [5, 6, 19] (fun cn _ i wr => ∃ k : Nat, k ≤ n ∧ i = .int .i64 k ∧ cn = .int .i64 (lb n f (nbs W H besF) k).2 ∧ St w [(w3.heap.size, [.int .i64 W, .int .i64 H, .slice (some ⟨b3, 0, none⟩) n c3]), (w2.heap.size, [.int .i64 W, .int .i64 H, .slice a n cap]), (w.heap.size + 1, [.int .i64 0, .int .i64 0, .slice none 0 0]), (w.heap.size, [.int .i64 W, .int .i64 H, .slice a n cap])] [(some ⟨b3, 0, none⟩, b3, n, fun q => .int .i64 (encL f (lb n f (nbs W H besF) k).1 q))] wr) (fun _ _ i _ => n - (intOf i).toNat)
  case atStart => exact ⟨0, by omega, rfl, rfl, HS3.out⟩
  case round =>
    obtain ⟨k, hk, rfl, rfl, hs⟩ := hrel
    clear HS3
    have HS := hide hs
    clear hs
    by_cases hlt : k < n
    · have hrow : Row b3 n (encL f (lb n f (nbs W H besF) k).1) wr := by
        rcases HS.out.nthO 0 rfl with h0 | ⟨-, h0⟩
        · omega
        · exact h0
      obtain ⟨y0, -⟩ := hrow k hlt
      have cS := HSp.out k b3 c3 wr
      have hone := encL_one (f := f) (l := (lb n f (nbs W H besF) k).1) (n := n) (q := k) (HBd.out k k).1 hlt
      have hcnt := lb_cnt n f (nbs W H besF) k
      have HN1 : Hid (∀ A, Fre n f (lb n f (nbs W H besF) k).1 k → Fd (Fre n f (lb n f (nbs W H besF) k).1) (nbs W H besF) k A [] → (lb n f (nbs W H besF) (k + 1)).1 = lbA (lb n f (nbs W H besF) k).1 ((lb n f (nbs W H besF) k).2 + 1) A ∧ (lb n f (nbs W H besF) (k + 1)).2 = (lb n f (nbs W H besF) k).2 + 1) := fun A h1 h2 => h2.done h1
      have HN0 : Hid (¬ Fre n f (lb n f (nbs W H besF) k).1 k → lb n f (nbs W H besF) (k + 1) = lb n f (nbs W H besF) k) := fun h => lb_pass h
      obtain ⟨⟨l, c⟩, hlc⟩ : ∃ P, lb n f (nbs W H besF) k = P := ⟨_, rfl⟩
      rw [hlc] at HS hrow y0 cS hone hcnt HN1 HN0 ⊢
      clear hlc
      obtain ⟨i0, i1, i2⟩ := HS.out.im3 0 rfl
      have HRow := hide hrow
      clear hrow
      dsimp only at *
      by_cases hf : Fre n f l k
      · rw [hone.2 hf] at y0
        have cS1 := cS hf HRow.out
        have hw1 : IntKind.i64.wrap (c + 1) = c + 1 := by rw [IntKind.wrap_i64]; omega
        have HF := hide hf
        clear hone hf cS hcnt
        go_wp2_with fail
        refine cS1.mono ?_
        rintro e w5 ⟨rfl, A, hF, hR, hK⟩
        obtain ⟨e1, e2⟩ := HN1.out A HF.out hF
        have hb3 : bk n b3 wr = b3 := bk_pos (by omega)
        have HS5 : Hid (St w [(w3.heap.size, [.int .i64 W, .int .i64 H, .slice (some ⟨b3, 0, none⟩) n c3]), (w2.heap.size, [.int .i64 W, .int .i64 H, .slice a n cap]), (w.heap.size + 1, [.int .i64 0, .int .i64 0, .slice none 0 0]), (w.heap.size, [.int .i64 W, .int .i64 H, .slice a n cap])] [(some ⟨b3, 0, none⟩, b3, n, fun q => .int .i64 (encL f (lb n f (nbs W H besF) (k + 1)).1 q))] w5) := by
          rw [e1]
          exact St.mark (O1 := []) HS.out (by rw [hb3]; exact hK) (by rw [hb3]; exact .inr ⟨rfl, hR⟩)
        have HE2 := hide e2
        clear cS1 hF hR hK e1 e2 hb3 HS HRow y0 i0 i1 i2 HN1 HN0
        go_wp2_with fail
        exact ⟨⟨k + 1, by omega, rfl, by rw [HE2.out], HS5.out⟩, by simp [intOf]; omega⟩
      · have qf : (encL f l k == -1) = false := by
          simp only [beq_eq_false_iff_ne, ne_eq]
          exact fun h => hf (hone.1 h)
        have HE := hide (HN0.out hf)
        clear hone cS hcnt hf HN1 HN0
        generalize encL f l k = y at *
        go_wp2_with fail
        exact ⟨⟨k + 1, by omega, rfl, by rw [HE.out], by rw [HE.out]; exact HS.out⟩, by simp [intOf]; omega⟩
    · obtain rfl : k = n := by omega
      have HSe := hide (HS.out.recast HEnd.out)
      clear HS
      obtain ⟨i0, i1, i2⟩ := HSe.out.im3 0 rfl
      go_wp2_with fail
      refine (cI _ _ _ (HSe.out.nthO 0 rfl).px).mono ?_
      rintro e w6 ⟨rfl, hb⟩
      have HS6 := hide (HSe.out.next hb)
      obtain ⟨z0, z1, z2⟩ := HS6.out.im3 2 rfl
      obtain ⟨e0, e1, e2⟩ := HS6.out.fr3 2 rfl
      clear cI hb HSe i0 i1 i2
      go_wp2_with fail
      exact bodyPost_ret (v := im W H (some ⟨b3, 0, none⟩) k c3) (by simp [results, Try.results8, go_sem, z0, z1, z2]) rfl ((HS6.out.fill3' (L1 := [_, _]) _ _ _).imR W H c3)

end Go.Proofs.Ytfaponkmmiiehaa
