/- Label, the program: a label spreads. -/
import Derived.Test.YtfaponkmmiiehaaLbs
import Derived.Deep.LoopGhost
namespace Go.Proofs.Ytfaponkmmiiehaa
open Go.RowKit

theorem KpS.weak {S T : Nat → Prop} {w w' : World} (h : KpS S w w') (hst : ∀ x, x < w.heap.size → S x → T x) : KpS T w w' :=
  ⟨h.os, h.tape, h.output, h.size, fun b hb hs => h.block b hb (fun h' => hs (hst b hb h'))⟩
theorem KpS.then {S T : Nat → Prop} {a b c : World} (h : KpS S a b) (k : KpS T b c) (hst : ∀ x, x < a.heap.size → T x → S x) : KpS S a c :=
  ⟨k.os.trans h.os, k.tape.trans h.tape, k.output.trans h.output, Nat.le_trans h.size k.size, fun j hj hs => (k.block j (Nat.lt_of_lt_of_le hj h.size) (fun e => hs (hst j hj e))).trans (h.block j hj hs)⟩
theorem owns_kps {S : Nat → Prop} {w w' : World} {B n m : Nat} {e : TypeId} {v : Value} {xs : List Value} (h : w.ownsRow B e m v n xs) (hk : KpS S w w') (hs : ∀ x, v.ownBlock = some x → ¬ S x) : w'.ownsRow B e m v n xs :=
  owns_keep h fun b hb => hk.block b (owns_lt h b hb) (hs b hb)
/-- what waits, as numbers -/
def cs (S : List Nat) : List Int := S.map fun q : Nat => (q : Int)
theorem cs_len (S : List Nat) : (cs S).length = S.length := by simp [cs]
theorem cs_app (S T : List Nat) : cs (S ++ T) = cs S ++ cs T := by simp [cs]
theorem cs_at {S : List Nat} {k : Nat} {p : Nat} (h : S[k]? = some p) : (cs S).getD k 0 = p := by simp [cs, List.getD, h]
/-- what is visited by k offsets -/
def vq (W H : Int) (p : Nat) (k : Nat) : List Int := visL W H p besF (fun q => (q : Int)) k

set_option maxRecDepth 100000 in
set_option maxHeartbeats 4000000 in
theorem spreadVis_any (W H : Int) (b n cap : Nat) (f l : Nat → Int) (c : Int) (A S : List Nat) (p : Nat) (hn : (n : Int) = W * H) (hW : 1 ≤ W) (hW' : W ≤ 64) (hH : 1 ≤ H) (hH' : H ≤ 64) (hp : p < n) (hn4 : n ≤ 4096) (hc : 1 ≤ c) (hl0 : ∀ q, 0 ≤ l q)
    (hA : (flA (Fre n f l) A (vq W H p 4)).length ≤ n) (hS : S.length ≤ n)
    (a2 : Option Addr) (cap2 : Nat) (bp bl bw G : Nat) (v : Value) (w : World)
    (hbp : Bx bp [.int .i64 W, .int .i64 H, .slice (some ⟨b, 0, none⟩) n cap] w) (hlb : Bx bl [.int .i64 c] w) (hw : Bx bw [v] w) (hr : Row b n (encL f (lbA l c A)) w) (ho : w.ownsRow G 2 1 v S.length (ints (cs S))) (hx : Px a2 (4 * 2) besF w)
    (hx2 : ∀ z off, a2 = some ⟨z, off, none⟩ → z ≠ b ∧ z ≠ bw ∧ v.ownBlock ≠ some z)
    (n1 : b ≠ bp) (n2 : b ≠ bl) (n3 : b ≠ bw) (n4 : bw ≠ bp) (n5 : bw ≠ bl) (hob : ∀ x, v.ownBlock = some x → x ≠ b ∧ x ≠ bw ∧ x ≠ bp ∧ x ≠ bl) (hG : G ≤ w.heap.size) :
    Calls Try.prog 40 #[gv W H, .int .i64 p, .slice a2 4 cap2, .func (.func 42) #[] #[.pointer (some ⟨bp, 0, none⟩), .pointer (some ⟨bl, 0, none⟩), .pointer (some ⟨bw, 0, none⟩)]] w fun e w' => e = .returned (.tuple #[]) ∧
      KpS (fun x => x = b ∨ x = bw ∨ v.ownBlock = some x) w w' ∧ ∃ v', Bx bw [v'] w' ∧ Row b n (encL f (lbA l c (flA (Fre n f l) A (vq W H p 4)))) w' ∧
        w'.ownsRow G 2 1 v' (S ++ (flA (Fre n f l) A (vq W H p 4)).drop A.length).length (ints (cs (S ++ (flA (Fre n f l) A (vq W H p 4)).drop A.length))) ∧ (∀ x, v'.ownBlock = some x → v.ownBlock = some x ∨ w.heap.size ≤ x) := by
  have hbw : bw < w.heap.size := World.block_lt_of_cell? w _ (hw 0 _ rfl).1
  have hbpl : bp < w.heap.size := World.block_lt_of_cell? w _ (hbp 0 _ rfl).1
  have hbll : bl < w.heap.size := World.block_lt_of_cell? w _ (hlb 0 _ rfl).1
  have hbb : b < w.heap.size := hr.lt (by omega)
  have hvl := owns_lt ho
  have hAk : ∀ k, k ≤ 4 → (flA (Fre n f l) A (vq W H p k)).length ≤ n := by
    intro k hk
    obtain ⟨M, hM⟩ : ∃ M, vq W H p 4 = vq W H p k ++ M := by
      unfold vq
      have : ∀ m, ∃ M, visL W H p besF (fun q => (q : Int)) (k + m) = visL W H p besF (fun q => (q : Int)) k ++ M := by
        intro m
        induction m with
        | zero => exact ⟨[], by simp⟩
        | succ m ih =>
          obtain ⟨M, hM⟩ := ih
          rw [← Nat.add_assoc, visL_succ, hM, List.append_assoc]
          exact ⟨_, rfl⟩
      have h := this (4 - k)
      rw [Nat.add_sub_cancel' hk] at h
      exact h
    rw [hM] at hA
    unfold flA at hA ⊢
    rw [List.foldl_append] at hA
    obtain ⟨N, hN⟩ := flA_ext (Fre n f l) M (List.foldl (fl1 (Fre n f l)) A (vq W H p k))
    unfold flA at hN
    rw [hN, List.length_append] at hA
    omega
  have cV := visitAround_any W H p a2 4 cap2 besF (by omega) hW hW' hH hH' (by omega) (by omega) besF_bd _ sprVis_fn #[.pointer (some ⟨bp, 0, none⟩), .pointer (some ⟨bl, 0, none⟩), .pointer (some ⟨bw, 0, none⟩)]
    (fun x => x = b ∨ x = bw ∨ v.ownBlock = some x) w
    (fun x h => by rcases h with rfl | rfl | h; (exact hbb); (exact hbw); (exact hvl x h))
    (fun wE k wr => KpS (fun x => x = b ∨ x = bw ∨ v.ownBlock = some x) wE wr ∧ Below w.heap.size w wE ∧ ∃ v', Bx bw [v'] wr ∧ Row b n (encL f (lbA l c (flA (Fre n f l) A (vq W H p k)))) wr ∧
      wr.ownsRow G 2 1 v' (S ++ (flA (Fre n f l) A (vq W H p k)).drop A.length).length (ints (cs (S ++ (flA (Fre n f l) A (vq W H p k)).drop A.length))) ∧ (∀ x, v'.ownBlock = some x → v.ownBlock = some x ∨ wE.heap.size ≤ x))
    (fun wE hE => ⟨KpS.refl _ _, hE, v, hw.below hE hbw, by simpa [vq, visL, flA] using hr.same (hE.block b hbb), by simpa [vq, visL, flA] using ownsRow_below' ho hE, fun x hx => .inl hx⟩)
    (fun _ _ _ h => h.1)
    (fun wE k wr hE h => by
      refine h.1.px (fun z off e hz => ?_) (hx.below hE)
      obtain ⟨e1, e2, e3⟩ := hx2 z off e
      rcases hz with h | h | h
      · exact e1 h
      · exact e2 h
      · exact e3 h)
    (fun wE k wr w' h hb' => by
      obtain ⟨g1, g2, v', g3, g4, g5, g6⟩ := h
      exact ⟨g1.next hb', g2, v', g3.below hb' (World.block_lt_of_cell? wr _ (g3 0 _ rfl).1), g4.same (hb'.block b (g4.lt (by omega))), ownsRow_below' g5 hb', g6⟩)
    (fun wE k wr hk hq h => by
      obtain ⟨g1, g2, v', g3, g4, g5, g6⟩ := h
      have e : vq W H p (k + 1) = vq W H p k := by unfold vq; rw [visL_succ, hq]; simp
      rw [e]
      exact ⟨g1, g2, v', g3, g4, g5, g6⟩)
    (fun wE k wr hk hq hE h => by
      obtain ⟨g1, g2, v', g3, g4, g5, g6⟩ := h
      obtain ⟨q0, q1⟩ := place_lt hq hn
      have e : vq W H p (k + 1) = vq W H p k ++ [((p / W + besF (k * 2 + 1)) * W + (p % W + besF (k * 2)))] := by
        unfold vq; rw [visL_succ, hq]; simp only [if_true]; rw [Int.toNat_of_nonneg q0]
      rw [e, flA_snoc]
      have hAk' := hAk k (by omega)
      obtain ⟨q, hqq⟩ : ∃ q : Nat, ((p / W + besF (k * 2 + 1)) * W + (p % W + besF (k * 2))) = (q : Int) := ⟨_, (Int.toNat_of_nonneg q0).symm⟩
      rw [hqq] at q1 ⊢
      have hqn : q < n := by omega
      obtain ⟨N, hN⟩ := flA_ext (Fre n f l) (vq W H p k) A
      generalize flA (Fre n f l) A (vq W H p k) = A' at *
      have hfree := encL_free (f := f) (l := l) (c := c) (A := A') (q := q) (n := n) hc (hl0 q) hqn
      have hlen : A.length ≤ A'.length := by rw [hN]; simp
      have hdl : (S ++ A'.drop A.length).length ≤ 8192 := by simp; omega
      have hwEs := hE.size
      have hwrs := g1.size
      have c0 := sprVis_any W H b n cap (encL f (lbA l c A')) c k q hqn bp bl bw G v' (cs (S ++ A'.drop A.length)) wr (by rw [cs_len]; omega)
        (g1.bx (fun h => by rcases h with h | h | h; (exact n1 h.symm); (exact n4 h.symm); (exact (hob bp h).2.2.1 rfl)) (by omega) (hbp.below hE hbpl))
        (g1.bx (fun h => by rcases h with h | h | h; (exact n2 h.symm); (exact n5 h.symm); (exact (hob bl h).2.2.2 rfl)) (by omega) (hlb.below hE hbll))
        g3 g4 (by rw [cs_len]; exact g5) n3 (fun x hx => by
          rcases g6 x hx with h | h
          · exact ⟨(hob x h).1, (hob x h).2.1⟩
          · constructor <;> omega) (by omega)
      refine c0.mono ?_
      rintro e w' ⟨rfl, k1, v2, k2, k3, k4, k5⟩
      refine ⟨rfl, g1.then k1 (fun x hx h => ?_), g2, v2, k2, ?_, ?_, fun x hx => ?_⟩
      · rcases h with h | h | h
        · exact .inl h
        · exact .inr (.inl h)
        · rcases g6 x h with h | h
          · exact .inr (.inr h)
          · omega
      · unfold lvR at k3
        by_cases hf : Fre n f l q ∧ q ∉ A'
        · rw [fl1_yes (x := (q : Int)) (by simpa using hf), Int.toNat_natCast, ← encL_put hc]
          rw [if_pos (hfree.2 hf)] at k3
          exact k3
        · rw [fl1_no (x := (q : Int)) (by simpa using hf)]
          rw [if_neg (fun h => hf (hfree.1 h))] at k3
          exact k3
      · unfold lvL at k4
        by_cases hf : Fre n f l q ∧ q ∉ A'
        · rw [fl1_yes (x := (q : Int)) (by simpa using hf), Int.toNat_natCast]
          rw [if_pos (hfree.2 hf)] at k4
          rw [List.drop_append_of_le_length hlen, ← List.append_assoc, cs_app]
          have e2 : (cs (S ++ A'.drop A.length) ++ [(q : Int)]).length = (S ++ A'.drop A.length ++ [q]).length := by rw [List.length_append, List.length_append, cs_len]; rfl
          rw [← e2]
          exact k4
        · rw [fl1_no (x := (q : Int)) (by simpa using hf)]
          rw [if_neg (fun h => hf (hfree.1 h)), cs_len] at k4
          exact k4
      · rcases k5 x hx with h | h
        · exact g6 x h
        · right; omega)
  refine cV.mono ?_
  rintro e w' ⟨rfl, wE, hE, g1, -, v', g3, g4, g5, g6⟩
  exact ⟨rfl, (KpS.of_below hE).then g1 (fun x _ h => h), v', g3, g4, g5, fun x hx => (g6 x hx).imp id (fun h => Nat.le_trans hE.size h)⟩

end Go.Proofs.Ytfaponkmmiiehaa
