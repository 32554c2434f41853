/- Drawn bounds: lists of bounds that grow, each with a list of its own. -/
import Derived.Test.YtadbniademamhaaVgl
import Derived.Test.YtadbniademamhaaDpg
import Derived.Test.YtadbniademamhaaGrk
import Derived.Test.YtadbniademamhaaBds
namespace Go.Proofs.Ytadbniademamhaa
open Go.RowKit

/-- the cells of bounds -/
def FBd (X : Nat → Value) (Bv : Nat → Int) (q : Nat) : Value := if q % 2 = 0 then X (q / 2) else .int .i64 (Bv (q / 2))
theorem FBd_0 (X : Nat → Value) (Bv : Nat → Int) (k : Nat) : FBd X Bv (k * 2) = X k := by
  unfold FBd; rw [if_pos (by omega), show k * 2 / 2 = k by omega]
theorem FBd_1 (X : Nat → Value) (Bv : Nat → Int) (k : Nat) : FBd X Bv (k * 2 + 1) = .int .i64 (Bv k) := by
  unfold FBd; rw [if_neg (by omega), show (k * 2 + 1) / 2 = k by omega]
theorem own_isB {w : World} {B n m : Nat} {e : TypeId} {v : Value} {xs : List Value} (h : w.ownsRow B e m v n xs) : ∃ a cap, v = .slice a n cap := by
  obtain ⟨_, ⟨rfl, rfl⟩ | ⟨g, cap, cur, hv, _⟩⟩ := h
  · exact ⟨none, 0, rfl⟩
  · exact ⟨_, cap, hv⟩
theorem owns_hi {w : World} {B B' n m : Nat} {e : TypeId} {v : Value} {xs : List Value} (h : w.ownsRow B e m v n xs) (hB : ∀ b, v.ownBlock = some b → B' ≤ b) : w.ownsRow B' e m v n xs := by
  obtain ⟨h1, h2⟩ := h
  refine ⟨h1, ?_⟩
  rcases h2 with h2 | ⟨g, cap, cur, hv, _, hr⟩
  · exact .inl h2
  · exact .inr ⟨g, cap, cur, hv, hB g (by rw [hv]; rfl), hr⟩
/-- one cell of a row of the call's own is written -/
theorem own_setV {w : World} {B n m b cap : Nat} {e : TypeId} {xs : List Value} (h : w.ownsRow B e m (.slice (some ⟨b, 0, none⟩) n cap) n xs) (k : Nat) (z : Value) :
    (w.setCell ⟨b, k, none⟩ z).ownsRow B e m (.slice (some ⟨b, 0, none⟩) n cap) n (xs.set k z) := by
  obtain ⟨h1, h2⟩ := h
  refine ⟨by rw [List.length_set]; exact h1, ?_⟩
  rcases h2 with ⟨hv, _⟩ | ⟨b', cap', cur, hv, hB, hh, hn, hc, hs, ht⟩
  · cases hv
  · cases hv
    refine .inr ⟨b, cap, cur.setIfInBounds k z, rfl, hB, ?_, hn, hc, by rw [Array.size_setIfInBounds]; exact hs, ?_⟩
    · rw [heap_setCell_same w b k cur e _ hh]
    · rw [Array.toList_setIfInBounds, List.take_set, ht]
theorem vls_set {F G : Nat → Value} {z : Value} {j : Nat} : ∀ {n : Nat}, (∀ k, k < n → k ≠ j → F k = G k) → (j < n → G j = z) → (vls F n).set j z = vls G n
  | 0, _, _ => rfl
  | n + 1, h, hz => by
    simp only [vls]
    by_cases e : j < n
    · rw [List.set_append_left _ _ (by rw [vls_len]; exact e), vls_set (fun k hk => h k (by omega)) (fun _ => hz (by omega)), h n (by omega) (by omega)]
    · rw [List.set_append_right _ _ (by rw [vls_len]; omega), vls_len]
      by_cases e2 : j = n
      · subst e2
        rw [Nat.sub_self, vls_congr (F := F) (G := G) (fun k hk => h k (by omega) (by omega)), hz (by omega)]
        rfl
      · rw [vls_congr (F := F) (G := G) (fun k hk => h k (by omega) (by omega)), h n (by omega) (by omega)]
        obtain ⟨d, hd⟩ : ∃ d, j - n = d + 1 := ⟨j - n - 1, by omega⟩
        rw [hd]; rfl

/-- a list that a bound holds -/
structure FmB (B Q N : Nat) (v x : Value) (L : List Int) (w : World) : Prop where
  pos : 1 ≤ L.length
  top : L.length ≤ N
  own : w.ownsRow B 2 1 x L.length (ints L)
  lt : ∀ b, x.ownBlock = some b → b < Q
  ap : Apart x v
/-- bounds of the call's own -/
def BL (B Q N : Nat) (v : Value) (k : Nat) (w : World) : Prop := ∃ (X : Nat → Value) (Bv : Nat → Int) (Ls : Nat → List Int),
  w.ownsRow B 30 2 v k (vls (FBd X Bv) (k * 2)) ∧ (∀ b, v.ownBlock = some b → b < Q) ∧ (∀ i, i < k → FmB B Q N v (X i) (Ls i) w) ∧ ∀ i, 0 < i → i < k → Apart (X i) (X 0)
theorem BL.keep {B Q N : Nat} {v : Value} {k : Nat} {w w' : World} (h : BL B Q N v k w) (hk : ∀ b, B ≤ b → b < Q → b < w.heap.size → w'.heap[b]? = w.heap[b]?) : BL B Q N v k w' := by
  obtain ⟨X, Bv, Ls, h1, h2, h3, h4⟩ := h
  exact ⟨X, Bv, Ls, owns_keep h1 (fun b hb => hk b (owns_ge h1 b hb) (h2 b hb) (owns_lt h1 b hb)), h2, fun i hi => ⟨(h3 i hi).pos, (h3 i hi).top, owns_keep (h3 i hi).own (fun b hb => hk b (owns_ge (h3 i hi).own b hb) ((h3 i hi).lt b hb) (owns_lt (h3 i hi).own b hb)), (h3 i hi).lt, (h3 i hi).ap⟩, h4⟩
theorem BL.kept {B Q N p : Nat} {v : Value} {k : Nat} {w w' : World} (h : BL B Q N v k w) (hk : Kept p w w') (hp : p < B) : BL B Q N v k w' := h.keep fun b hB _ hb => hk.block b hb (by omega)
theorem BL.below {B Q N : Nat} {v : Value} {k : Nat} {w w' : World} (h : BL B Q N v k w) (hb : Below Q w w') : BL B Q N v k w' := h.keep fun b _ hQ _ => hb.block b hQ
theorem BL.up {B Q N : Nat} {v : Value} {k : Nat} {w : World} (h : BL B Q N v k w) : BL B w.heap.size N v k w := by
  obtain ⟨X, Bv, Ls, h1, h2, h3, h4⟩ := h
  exact ⟨X, Bv, Ls, h1, fun b hb => owns_lt h1 b hb, fun i hi => ⟨(h3 i hi).pos, (h3 i hi).top, (h3 i hi).own, fun b hb => owns_lt (h3 i hi).own b hb, (h3 i hi).ap⟩, h4⟩
theorem BL.more {B Q N N' : Nat} {v : Value} {k : Nat} {w : World} (h : BL B Q N v k w) (hN : N ≤ N') : BL B Q N' v k w := by
  obtain ⟨X, Bv, Ls, h1, h2, h3, h4⟩ := h
  exact ⟨X, Bv, Ls, h1, h2, fun i hi => ⟨(h3 i hi).pos, Nat.le_trans (h3 i hi).top hN, (h3 i hi).own, (h3 i hi).lt, (h3 i hi).ap⟩, h4⟩
theorem BL.is {B Q N : Nat} {v : Value} {k : Nat} {w : World} (h : BL B Q N v k w) : ∃ a c, v = .slice a k c := by
  obtain ⟨X, Bv, Ls, h1, h2, h3, h4⟩ := h
  exact own_isB h1
theorem BL.own {B Q N : Nat} {v : Value} {k : Nat} {w : World} (h : BL B Q N v k w) : ∀ b, v.ownBlock = some b → B ≤ b ∧ b < w.heap.size ∧ b < Q := by
  obtain ⟨X, Bv, Ls, h1, h2, h3, h4⟩ := h
  exact fun b hb => ⟨owns_ge h1 b hb, owns_lt h1 b hb, h2 b hb⟩
/-- as what is handed on -/
theorem BL.out {B Q N : Nat} {v : Value} {k : Nat} {w : World} (h : BL B Q N v k w) : ∃ (a : Option Addr) (cap : Nat) (ad : Nat → Option Addr) (ln cp : Nat → Nat) (F : Nat → Nat → Int) (Bv : Nat → Int), v = .slice a k cap ∧ k ≤ cap ∧ PxB a k ad ln cp F Bv w ∧ ∀ i, i < k → 1 ≤ ln i ∧ ln i ≤ N := by
  obtain ⟨X, Bv, Ls, h1, h2, h3, h4⟩ := h
  have hx : ∀ i, ∃ a c, i < k → X i = .slice a (Ls i).length c := fun i => by
    by_cases hi : i < k
    · obtain ⟨a, c, e⟩ := own_isB (h3 i hi).own
      exact ⟨a, c, fun _ => e⟩
    · exact ⟨none, 0, fun h => absurd h hi⟩
  obtain ⟨ad, hx⟩ := Classical.skolem.1 hx
  obtain ⟨cp, hx⟩ := Classical.skolem.1 hx
  obtain ⟨a, cap, b, hv, ho, _, hc⟩ := ow_vls h1
  refine ⟨a, cap, ad, fun i => (Ls i).length, cp, fun i q => (Ls i).getD q 0, Bv, hv, hc, ⟨?_, fun i hi => ?_⟩, fun i hi => ⟨(h3 i hi).pos, (h3 i hi).top⟩⟩
  · rcases ho with ho | ⟨ha, ho⟩
    · exact .inl (by omega)
    · refine .inr ⟨b, 0, ha, fun i hi => ⟨?_, ?_⟩⟩
      · rw [Nat.zero_add, (ho (i * 2) (by omega)).1, FBd_0, hx i hi]
      · rw [Nat.zero_add, (ho (i * 2 + 1) (by omega)).1, FBd_1]
  · have h5 := (h3 i hi).own
    rw [hx i hi] at h5
    obtain ⟨b', cap', e, _, hcl⟩ := own_partsL h5 (h3 i hi).pos
    exact .inr ⟨b', 0, (Value.slice.inj e).1, fun q hq => by rw [Nat.zero_add]; exact (hcl q hq).1⟩
/-- the first bound -/
theorem BL.head {B Q N : Nat} {v : Value} {k : Nat} {w : World} (h : BL B Q N v k w) (hk : 0 < k) : ∃ (b cap c cx : Nat) (L : List Int) (z : Int), v = .slice (some ⟨b, 0, none⟩) k cap ∧ w.cell? ⟨b, 0, none⟩ = some (.slice (some ⟨c, 0, none⟩) L.length cx) ∧ w.cell? ⟨b, 1, none⟩ = some (.int .i64 z) ∧ w.frozen? ⟨b, 0, none⟩ = false ∧ w.frozen? ⟨b, 1, none⟩ = false ∧ B ≤ b ∧ b < Q ∧ b < w.heap.size ∧ 1 ≤ L.length ∧ L.length ≤ N ∧ B ≤ c ∧ c < Q ∧ c < w.heap.size ∧ b ≠ c ∧
    (∀ q, q < L.length → w.cell? ⟨c, q, none⟩ = some (.int .i64 (L.getD q 0)) ∧ w.frozen? ⟨c, q, none⟩ = false) ∧ w.ownsRow B 2 1 (.slice (some ⟨c, 0, none⟩) L.length cx) L.length (ints L) ∧
    (∀ z' : Int, BL B Q N v k (w.setCell ⟨b, 1, none⟩ (.int .i64 z'))) ∧ (∀ z' : Int, BL B Q N v k (w.setCell ⟨c, 0, none⟩ (.int .i64 z'))) ∧
    (∀ (g cg : Nat) (L' : List Int) (w' : World), (∀ b, b < w.heap.size → b ≠ c → w'.heap[b]? = w.heap[b]?) → (g = c ∨ w.heap.size ≤ g) → w.heap.size ≤ w'.heap.size → w'.ownsRow B 2 1 (.slice (some ⟨g, 0, none⟩) L'.length cg) L'.length (ints L') → 1 ≤ L'.length → L'.length ≤ N + 1 → BL B (w'.setCell ⟨b, 0, none⟩ (.slice (some ⟨g, 0, none⟩) L'.length cg)).heap.size (N + 1) v k (w'.setCell ⟨b, 0, none⟩ (.slice (some ⟨g, 0, none⟩) L'.length cg))) := by
  obtain ⟨X, Bv, Ls, h1, h2, h3, h4⟩ := h
  have f0 := h3 0 hk
  have f0o := f0.own
  obtain ⟨ax, cx0, hx0⟩ := own_isB f0o
  rw [hx0] at f0o
  obtain ⟨c, cx, e, hBc, hcl⟩ := own_partsL f0o f0.pos
  have hx0' : X 0 = .slice (some ⟨c, 0, none⟩) (Ls 0).length cx := by rw [hx0, e]
  clear e hx0
  obtain ⟨a, cap, b, hv, ho, _, hc⟩ := ow_vls h1
  rcases ho with ho | ⟨ha, ho⟩
  · omega
  subst hv
  subst ha
  have e0 := ho 0 (by omega)
  have e1 := ho 1 (by omega)
  have F0 : FBd X Bv 0 = X 0 := FBd_0 X Bv 0
  have F1 : FBd X Bv 1 = .int .i64 (Bv 0) := FBd_1 X Bv 0
  rw [F0] at e0
  rw [F1] at e1
  have hbB := owns_ge h1 b rfl
  have hbw := owns_lt h1 b rfl
  have hbQ := h2 b rfl
  have hcw := owns_lt f0.own c (by rw [hx0']; rfl)
  have hcQ := f0.lt c (by rw [hx0']; rfl)
  have hbc : b ≠ c := fun e => f0.ap c (by rw [hx0']; rfl) (by rw [e]; rfl)
  have o0 := f0.own
  rw [hx0'] at o0
  refine ⟨b, cap, c, cx, Ls 0, Bv 0, rfl, hx0' ▸ e0.1, e1.1, e0.2, e1.2, hbB, hbQ, hbw, f0.pos, f0.top, hBc, hcQ, hcw, hbc, hcl, o0, fun z' => ?_, fun z' => ?_, fun g cg L' w' hkp hg hsz hown hp hn => ?_⟩
  · have kk : Kept b w (w.setCell ⟨b, 1, none⟩ (.int .i64 z')) := (Kept.refl b w).setCell (a := ⟨b, 1, none⟩) rfl _
    refine ⟨X, fun i => if i = 0 then z' else Bv i, Ls, ?_, h2, fun i hi => ⟨(h3 i hi).pos, (h3 i hi).top, owns_keep (h3 i hi).own (fun b' hb' => kk.block b' (owns_lt (h3 i hi).own b' hb') (fun e => (h3 i hi).ap b' hb' (by rw [e]; rfl))), (h3 i hi).lt, (h3 i hi).ap⟩, h4⟩
    have := own_setV h1 1 (.int .i64 z')
    rwa [vls_set (F := FBd X Bv) (G := FBd X (fun i => if i = 0 then z' else Bv i)) (j := 1) (z := .int .i64 z') (fun q hq hne => by
      unfold FBd
      by_cases hq0 : q % 2 = 0
      · rw [if_pos hq0, if_pos hq0]
      · rw [if_neg hq0, if_neg hq0]
        have : ¬ q / 2 = 0 := by omega
        simp only [if_neg this]) (fun _ => rfl)] at this
  · have kk : Kept c w (w.setCell ⟨c, 0, none⟩ (.int .i64 z')) := (Kept.refl c w).setCell (a := ⟨c, 0, none⟩) rfl _
    refine ⟨X, Bv, fun i => if i = 0 then (Ls 0).set 0 z' else Ls i, owns_keep h1 (fun b' hb' => kk.block b' (owns_lt h1 b' hb') (fun e => by cases hb'; exact hbc e)), h2, fun i hi => ?_, h4⟩
    by_cases e : i = 0
    · subst e
      simp only [if_true]
      refine ⟨by rw [List.length_set]; exact f0.pos, by rw [List.length_set]; exact f0.top, ?_, f0.lt, f0.ap⟩
      rw [List.length_set, hx0']
      exact own_setL o0 0 z'
    · simp only [if_neg e]
      exact ⟨(h3 i hi).pos, (h3 i hi).top, owns_keep (h3 i hi).own (fun b' hb' => kk.block b' (owns_lt (h3 i hi).own b' hb') (fun e' => h4 i (by omega) hi b' hb' (by rw [hx0', e']; rfl))), (h3 i hi).lt, (h3 i hi).ap⟩
  · have kk : Kept b w' (w'.setCell ⟨b, 0, none⟩ (.slice (some ⟨g, 0, none⟩) L'.length cg)) := (Kept.refl b w').setCell (a := ⟨b, 0, none⟩) rfl _
    have hs2 : (w'.setCell ⟨b, 0, none⟩ (.slice (some ⟨g, 0, none⟩) L'.length cg)).heap.size = w'.heap.size := by simp
    have hgb : g ≠ b := by rcases hg with hg | hg <;> omega
    have h1' : w'.ownsRow B 30 2 (.slice (some ⟨b, 0, none⟩) k cap) k (vls (FBd X Bv) (k * 2)) := owns_keep h1 (fun b' hb' => by cases hb'; exact hkp b hbw hbc)
    have glt := owns_lt hown g rfl
    refine ⟨fun i => if i = 0 then .slice (some ⟨g, 0, none⟩) L'.length cg else X i, Bv, fun i => if i = 0 then L' else Ls i, ?_, fun b' hb' => by obtain rfl : b = b' := Option.some.inj hb'; rw [hs2]; omega, fun i hi => ?_, fun i h0 hi => ?_⟩
    · have := own_setV h1' 0 (.slice (some ⟨g, 0, none⟩) L'.length cg)
      rwa [vls_set (F := FBd X Bv) (G := FBd (fun i => if i = 0 then .slice (some ⟨g, 0, none⟩) L'.length cg else X i) Bv) (j := 0) (z := .slice (some ⟨g, 0, none⟩) L'.length cg) (fun q hq hne => by
        unfold FBd
        by_cases hq0 : q % 2 = 0
        · rw [if_pos hq0, if_pos hq0]
          have : ¬ q / 2 = 0 := by omega
          simp only [if_neg this]
        · rw [if_neg hq0, if_neg hq0]) (fun _ => rfl)] at this
    · by_cases e : i = 0
      · subst e
        simp only [if_true]
        exact ⟨hp, hn, owns_keep hown (fun b' hb' => by obtain rfl : g = b' := Option.some.inj hb'; exact kk.block g glt hgb), fun b' hb' => by obtain rfl : g = b' := Option.some.inj hb'; rw [hs2]; omega, fun b' hb' h' => by obtain rfl : g = b' := Option.some.inj hb'; exact hgb (Option.some.inj h').symm⟩
      · simp only [if_neg e]
        have fi := h3 i hi
        have hne : ∀ b', (X i).ownBlock = some b' → b' ≠ c := fun b' hb' e' => h4 i (by omega) hi b' hb' (by rw [hx0', e']; rfl)
        refine ⟨fi.pos, Nat.le_succ_of_le fi.top, owns_keep (owns_keep fi.own (fun b' hb' => hkp b' (owns_lt fi.own b' hb') (hne b' hb'))) (fun b' hb' => kk.block b' (Nat.lt_of_lt_of_le (owns_lt fi.own b' hb') hsz) (fun e' => fi.ap b' hb' (by rw [e']; rfl))), fun b' hb' => by have := owns_lt fi.own b' hb'; rw [hs2]; omega, fi.ap⟩
    · simp only [if_true, if_neg (show ¬ i = 0 by omega)]
      intro b' hb' h'
      have := owns_lt (h3 i hi).own b' hb'
      have hne : b' ≠ c := fun e' => h4 i h0 hi b' hb' (by rw [hx0', e']; rfl)
      obtain rfl : g = b' := Option.some.inj h'
      rcases hg with hg | hg
      · exact hne hg
      · omega
set_option maxRecDepth 100000 in
theorem infoB : ∃ i, Try.prog.info? 30 = some i ∧ i.zero = some (vBd none 0 0 0) ∧ i.size = 2 ∧ i.bytes = 32 := ⟨_, rfl, rfl, rfl, rfl⟩
/-- a bound is appended -/
theorem growB (w : World) {ops : Array Oper} {rest : List Oper} {o : Oper} {a : Act} {Q' : Exit → Act → World → Prop} (hgd : o.guard = none) (s x : Operand)
    (ho : o.op = .call { callee := .builtin .append, args := #[s, x], argTypes := #[24, 24] }) (B Q N : Nat) (v : Value) (k : Nat) (hs : a.eval s = v) (w0 : World) (hown : BL B Q N v k w) (hb : Below B w0 w) (hB : B ≤ w.heap.size) (hBQ : B ≤ Q)
    (id : Int) (xv : Value) (L : List Int) (hL1 : 1 ≤ L.length) (hL2 : L.length ≤ N) (hf : w.ownsRow Q 2 1 xv L.length (ints L)) (hone : xv.oneCell' = true) (hx : a.eval x = .slice (some ⟨w.heap.size, 0, none⟩) 1 1) (hk : k ≤ 1048576)
    (h : ∀ v' w', BL B w'.heap.size N v' (k + 1) w' → Below B w0 w' → w.heap.size < w'.heap.size → KpV v w w' → Moved v v' w → wpList Try.prog ops Q' rest (a.put o.dst v') w') :
    wpList Try.prog ops Q' (o :: rest) a (w.alloc (.cells #[xv, .int .i64 id] 30)) := by
  obtain ⟨ti, hi1, hi2, hi3, hi4⟩ := infoB
  obtain ⟨X, Bv, Ls, h1, h2, h3, h4⟩ := hown
  have hsw : w.heap.size < (w.alloc (.cells [xv, Value.int .i64 id].toArray 30)).heap.size := by simp
  refine wpList_append_lies _ hgd s x 24 ho B 30 ti (vBd none 0 0 0) 2 32 Try.underlying24 hi1 hi2 hi3 hi4 rfl (by omega) v k _ hs (h1.alloc _) ⟨w.heap.size, 0, none⟩ 1 1 [xv, Value.int .i64 id] hx rfl (new_cells w [xv, Value.int .i64 id] 30) (fun u hu => by
    simp only [List.mem_cons, List.not_mem_nil, or_false] at hu
    rcases hu with rfl | rfl
    · exact hone
    · rfl) (by omega) (by unfold maxLen; omega) (by omega) (Nat.le_trans hB (Nat.le_of_lt hsw)) _ rfl ?_
  intro g cap w' g1 g2 g3 g4
  have hr3 : ∀ q, Value.ownBlock v = some q → B ≤ q := fun q hq => (h1.lt q hq).1
  have hB3 : Below B (w.alloc (.cells [xv, Value.int .i64 id].toArray 30)) w' := (Below.refl _ _).grown g2 (Nat.le_trans hB (Nat.le_of_lt hsw)) hr3
  have hKV : KpV v w w' := fun b hb hv => by
    rw [g2.block b (Nat.lt_trans hb hsw) (fun e => hv e.symm)]
    exact (bnew w (.cells [xv, Value.int .i64 id].toArray 30)).block b hb
  have hMv : Moved v (.slice (some ⟨g, 0, none⟩) (k + 1) cap) w := fun b hb => by
    cases hb
    rcases g3 with g3 | g3
    · exact .inl g3
    · right; rw [g3]; exact Nat.le_of_lt hsw
  have hlt : w.heap.size < w'.heap.size := Nat.lt_of_lt_of_le hsw hB3.size
  have apx : Apart xv v := fun b hb hb' => by have := owns_ge hf b hb; have := h2 b hb'; omega
  refine h _ w' ⟨fun i => if i = k then xv else X i, fun i => if i = k then id else Bv i, fun i => if i = k then L else Ls i, ?_, fun b hb => owns_lt g1 b hb, fun i hi => ?_, fun i h0 hi => ?_⟩ ((hb.alloc hB _).trans hB3) hlt hKV hMv
  · have e : vls (FBd (fun i => if i = k then xv else X i) (fun i => if i = k then id else Bv i)) ((k + 1) * 2) = vls (FBd X Bv) (k * 2) ++ [xv, Value.int .i64 id] := by
      rw [show (k + 1) * 2 = k * 2 + 1 + 1 by omega]
      simp only [vls]
      rw [FBd_0, FBd_1, if_pos rfl, if_pos rfl, vls_congr (G := FBd X Bv) (fun q hq => by
        unfold FBd
        have hq2 : ¬ q / 2 = k := by omega
        simp only [if_neg hq2])]
      simp
    rw [e]; exact g1
  · by_cases e : i = k
    · subst e; simp only [if_true]
      have ox := owns_side hf hKV apx
      exact ⟨hL1, hL2, owns_mono ox hBQ, fun b hb => owns_lt ox b hb, apx.moved hMv hf⟩
    · simp only [if_neg e]
      have fi := h3 i (by omega)
      have ox := owns_side fi.own hKV fi.ap
      exact ⟨fi.pos, fi.top, ox, fun b hb => owns_lt ox b hb, fi.ap.moved hMv fi.own⟩
  · by_cases e0 : 0 = k
    · omega
    · simp only [if_neg e0]
      by_cases e : i = k
      · subst e; simp only [if_true]
        intro b hb hb'
        have := owns_ge hf b hb
        have := (h3 0 (by omega)).lt b hb'
        omega
      · simp only [if_neg e]; exact h4 i h0 (by omega)
theorem BL.nil (B N : Nat) (w : World) (hB : B ≤ w.heap.size) : BL B (w.heap.size + 1) N (.slice (some ⟨w.heap.size, 0, none⟩) 0 0) 0 (w.alloc (.cells #[] 30)) :=
  ⟨fun _ => .int .i64 0, fun _ => 0, fun _ => [], World.ownsRow_lit w #[] 0 hB (by unfold maxLen; omega) rfl, fun b hb => by obtain rfl : w.heap.size = b := Option.some.inj hb; omega, fun i hi => absurd hi (Nat.not_lt_zero _), fun i _ hi => absurd hi (Nat.not_lt_zero _)⟩

end Go.Proofs.Ytadbniademamhaa
