/- Watershed, the program: all that lies beside a place is met. -/
import Derived.Test.YtekoioggamhlaaaWmv
import Derived.Test.YtekoioggamhlaaaLbt
import Derived.Test.YtekoioggamhlaaaG8v
namespace Go.Proofs.Ytekoioggamhlaaa
open Go.RowKit

/-- what is visited by k offsets -/
def vqs (W H : Int) (p : Nat) (k : Nat) : List Int := visL W H p besF (fun q => (q : Int)) k
/-- a flood in its box -/
def Fld (im : Nat → Int) (W H : Int) (ap : Option Addr) (n capp bo capo bf G : Nat) (s : Ws) (w : World) : Prop :=
  ∃ v L, Bx bf (flC W H (.slice ap n capp) bo n capo v s.c) w ∧ Row bo n s.o w ∧ w.ownsRow G 59 3 v L.length (ints (hl L)) ∧ hpI L ∧ L.Perm (itms im s)
theorem itms_len {im : Nat → Int} {n : Nat} {s : Ws} {L : List I3} (hi : WsI n s) (h : L.Perm (itms im s)) : L.length ≤ n := by
  rw [h.length_eq]
  unfold itms
  rw [List.length_map]
  exact len_le_of_nodup hi.nd hi.lt
theorem Fld.below {im : Nat → Int} {W H : Int} {ap : Option Addr} {n capp bo capo bf G : Nat} {s : Ws} {w w' : World} (h : Fld im W H ap n capp bo capo bf G s w) (hn : 0 < n) (hb : Below w.heap.size w w') : Fld im W H ap n capp bo capo bf G s w' := by
  obtain ⟨v, L, h1, h2, h3, h4, h5⟩ := h
  exact ⟨v, L, h1.below hb (World.block_lt_of_cell? w ⟨bf, 0, none⟩ (h1 0 _ rfl).1), h2.sameH (hb.block bo (h2.lt' hn)), ownsRow_below' h3 hb, h4, h5⟩

set_option maxRecDepth 100000 in
theorem meetVis_fn : ∀ ar w, Sem.run Try.prog (callFunc 42 ar) w = .ok (.enter 42 ar) w := fun _ _ => rfl

set_option maxRecDepth 100000 in
set_option maxHeartbeats 4000000 in
theorem meetVisits_any (im : Nat → Int) (W H : Int) (ap : Option Addr) (n capp bo capo bf G : Nat) (s : Ws) (p : Nat) (hp : p < n) (hop : s.o p ≠ 0) (hi : WsI n s) (hcn : s.c + fr0 n s.o ≤ n) (hn : (n : Int) = W * H) (hW : 1 ≤ W) (hW' : W ≤ 64) (hH : 1 ≤ H) (hH' : H ≤ 64) (hn4 : n ≤ 4096)
    (v : Value) (L : List I3) (hHp : hpI L) (hPm : L.Perm (itms im s)) (a2 : Option Addr) (cap2 bq bp : Nat) (w : World)
    (hb : Bx bf (flC W H (.slice ap n capp) bo n capo v s.c) w) (hq1 : Bx bq [.pointer (some ⟨bf, 0, none⟩)] w) (hp1 : Bx bp [.int .i64 p] w) (hr : Row bo n s.o w) (hx : Px ap n im w) (ho : w.ownsRow G 59 3 v L.length (ints (hl L)))
    (hf : Px a2 (4 * 2) besF w) (hf2 : ∀ z off, a2 = some ⟨z, off, none⟩ → z ≠ bf ∧ z ≠ bo ∧ v.ownBlock ≠ some z)
    (n1 : bo ≠ bf) (n2 : bq ≠ bf) (n3 : bq ≠ bo) (n4 : bp ≠ bf) (n5 : bp ≠ bo) (hob : ∀ x, v.ownBlock = some x → x ≠ bf ∧ x ≠ bo ∧ x ≠ bq ∧ x ≠ bp) (hx2 : ∀ z off, ap = some ⟨z, off, none⟩ → z ≠ bo ∧ z ≠ bf ∧ v.ownBlock ≠ some z) (hG : G ≤ w.heap.size) :
    Calls Try.prog 40 #[gv W H, .int .i64 p, .slice a2 4 cap2, .func (.func 42) #[] #[.pointer (some ⟨bq, 0, none⟩), .pointer (some ⟨bp, 0, none⟩)]] w fun e w' => e = .returned (.tuple #[]) ∧
      KpS (fun y => y = bf ∨ y = bo ∨ v.ownBlock = some y) w w' ∧ Fld im W H ap n capp bo capo bf G (msL p s (vqs W H p 4)) w' := by
  have hbf : bf < w.heap.size := World.block_lt_of_cell? w ⟨bf, 0, none⟩ (hb 0 _ rfl).1
  have hbq : bq < w.heap.size := World.block_lt_of_cell? w ⟨bq, 0, none⟩ (hq1 0 _ rfl).1
  have hbp : bp < w.heap.size := World.block_lt_of_cell? w ⟨bp, 0, none⟩ (hp1 0 _ rfl).1
  have hbo : bo < w.heap.size := hr.lt' hp
  have hvl := owns_lt ho
  have hbk : ∀ k, ∀ x ∈ vqs W H p k, x.toNat < n := fun k x hx => by
    have := visL_mem (f := fun q => (q : Int)) (g := besF) (p := p) hn (P := fun x => 0 ≤ x ∧ x < n) (fun j hj => by omega) k x hx
    omega
  have hall : ∀ k, _ := fun k => msL_all (vqs W H p k) s hi hop (hbk k)
  have cV := visitAround_any W H p a2 4 cap2 besF (by omega) hW hW' hH hH' (by omega) (by omega) besF_bd _ meetVis_fn #[.pointer (some ⟨bq, 0, none⟩), .pointer (some ⟨bp, 0, none⟩)]
    (fun x => x = bf ∨ x = bo ∨ v.ownBlock = some x) w
    (fun x h => by rcases h with rfl | rfl | h; (exact hbf); (exact hbo); (exact hvl x h))
    (fun wE k wr => KpS (fun x => x = bf ∨ x = bo ∨ v.ownBlock = some x) wE wr ∧ Below w.heap.size w wE ∧ ∃ v' L', Bx bf (flC W H (.slice ap n capp) bo n capo v' (msL p s (vqs W H p k)).c) wr ∧ Row bo n (msL p s (vqs W H p k)).o wr ∧
      wr.ownsRow G 59 3 v' L'.length (ints (hl L')) ∧ hpI L' ∧ L'.Perm (itms im (msL p s (vqs W H p k))) ∧ (∀ x, v'.ownBlock = some x → v.ownBlock = some x ∨ wE.heap.size ≤ x))
    (fun wE hE => ⟨KpS.refl _ _, hE, v, L, hb.below hE hbf, hr.sameH (hE.block bo hbo), ownsRow_below' ho hE, hHp, hPm, fun x hx => .inl hx⟩)
    (fun _ _ _ h => h.1)
    (fun wE k wr hE h => by
      refine h.1.px (fun z off e hz => ?_) (hf.below hE)
      obtain ⟨e1, e2, e3⟩ := hf2 z off e
      rcases hz with h | h | h
      · exact e1 h
      · exact e2 h
      · exact e3 h)
    (fun wE k wr w' h hb' => by
      obtain ⟨g1, g2, v', L', g3, g4, g5, g6, g7, g8⟩ := h
      exact ⟨g1.next hb', g2, v', L', g3.below hb' (World.block_lt_of_cell? wr ⟨bf, 0, none⟩ (g3 0 _ rfl).1), g4.sameH (hb'.block bo (g4.lt' hp)), ownsRow_below' g5 hb', g6, g7, g8⟩)
    (fun wE k wr hk hq h => by
      have e : vqs W H p (k + 1) = vqs W H p k := by unfold vqs; rw [visL_succ, hq]; simp
      rw [e]; exact h)
    (fun wE k wr hk hq hE h => by
      obtain ⟨g1, g2, v', L', g3, g4, g5, g6, g7, g8⟩ := h
      obtain ⟨q0, q1⟩ := place_lt hq hn
      have e : vqs W H p (k + 1) = vqs W H p k ++ [((p / W + besF (k * 2 + 1)) * W + (p % W + besF (k * 2)))] := by
        unfold vqs; rw [visL_succ, hq]; simp only [if_true]; rw [Int.toNat_of_nonneg q0]
      rw [e, msL_snoc]
      obtain ⟨q, hqq⟩ : ∃ q : Nat, ((p / W + besF (k * 2 + 1)) * W + (p % W + besF (k * 2))) = (q : Int) := ⟨_, (Int.toNat_of_nonneg q0).symm⟩
      rw [hqq] at q1 ⊢
      have hqn : q < n := by omega
      obtain ⟨i1, i2, -, i4, -⟩ := hall k
      generalize msL p s (vqs W H p k) = s' at *
      have hwEs := hE.size
      have hwrs := g1.size
      have hLl := itms_len i1 g7
      have hobv : ∀ x, v'.ownBlock = some x → x ≠ bf ∧ x ≠ bo ∧ x ≠ bq ∧ x ≠ bp := fun x hx => by
        rcases g8 x hx with h | h
        · exact hob x h
        · exact ⟨by omega, by omega, by omega, by omega⟩
      have hSn : ∀ y, y < w.heap.size → y ≠ bf → y ≠ bo → (∀ x, v.ownBlock = some x → x ≠ y) → ¬ (y = bf ∨ y = bo ∨ v.ownBlock = some y) := fun y _ h1 h2 h3 h => by
        rcases h with h | h | h
        · exact h1 h
        · exact h2 h
        · exact h3 y h rfl
      have c0 := meetVis_any im W H ap n capp bo capo bf G s' k p q hqn hp i1 v' L' g6 g7 bq bp wr g3
        (g1.bx (hSn bq hbq n2 n3 (fun x hx => (hob x hx).2.2.1)) (by omega) (hq1.below hE hbq))
        (g1.bx (hSn bp hbp n4 n5 (fun x hx => (hob x hx).2.2.2)) (by omega) (hp1.below hE hbp))
        g4 (g1.px (fun z off e => by
          obtain ⟨e1, e2, e3⟩ := hx2 z off e
          intro h
          rcases h with h | h | h
          · exact e2 h
          · exact e1 h
          · exact e3 h) (hx.below hE)) g5 n1 n2 n3 n4 n5 hobv
        (fun z off e => by
          obtain ⟨e1, e2, e3⟩ := hx2 z off e
          refine ⟨e1, e2, fun h => ?_⟩
          rcases g8 z h with h | h
          · exact e3 h
          · rcases hx.lt (by omega) with ⟨b, o, e', hl⟩
            rw [e] at e'; cases e'; omega) (by omega) (by have := fr0_le n s'.o; omega) (by omega)
      refine c0.mono ?_
      rintro e w' ⟨rfl, k1, v2, L2, k2, k3, k4, k5, k6, k7⟩
      refine ⟨rfl, g1.thenS k1 (fun x hx h => ?_), g2, v2, L2, k2, k3, k4, k5, k6, fun x hx => ?_⟩
      · rcases h with h | h | h
        · exact .inl h
        · exact .inr (.inl h)
        · rcases g8 x h with h | h
          · exact .inr (.inr h)
          · omega
      · rcases k7 x hx with h | h
        · exact g8 x h
        · right; omega)
  refine cV.mono ?_
  rintro e w' ⟨rfl, wE, hE, g1, -, v', L', g3, g4, g5, g6, g7, -⟩
  exact ⟨rfl, (KpS.of_below hE).thenS g1 (fun x _ h => h), v', L', g3, g4, g5, g6, g7⟩

end Go.Proofs.Ytekoioggamhlaaa
