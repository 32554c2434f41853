/- Orders in numbers: where one stands, one put in step by step; a flow is answered. -/
import Derived.Test.YtfhfddmiiopgdaaFle
namespace Go.Proofs.Ytfhfddmiiopgdaa
open Go.RowKit

theorem l1Max_any (x y : Int) (w : World) : Calls Try.prog 30 #[.int .i64 x, .int .i64 y] w fun e w' => e = .returned (.int .i64 (max x y)) ∧ w' = w := by
  by_cases h : x > y
  · have hm : max x y = x := by omega
    rw [hm]
    go_enter Try.func30, Try.ntmps30
    go_wp2
    go_ret
    exact ⟨rfl, rfl⟩
  · have hm : max x y = y := by omega
    rw [hm]
    go_enter Try.func30, Try.ntmps30
    go_wp2
    go_ret
    exact ⟨rfl, rfl⟩

theorem fd_no {g : Nat → Int} {x : Int} : ∀ (n k : Nat), (∀ i, k ≤ i → i < k + n → g (i * 4) ≠ x) → fdN g x k n = -1
  | 0, _, _ => rfl
  | n + 1, k, h => by
    simp only [fdN]
    rw [if_neg (h k (Nat.le_refl _) (by omega)), fd_no n (k + 1) (fun i h1 h2 => h i (by omega) (by omega))]
theorem fd_at {g : Nat → Int} {x : Int} {p : Nat} (hp : g (p * 4) = x) : ∀ (n k : Nat), k ≤ p → p < k + n → (∀ i, k ≤ i → i < p → g (i * 4) ≠ x) → fdN g x k n = (p : Int)
  | 0, k, h1, h2, _ => by omega
  | n + 1, k, h1, h2, h => by
    simp only [fdN]
    by_cases e : k = p
    · subst e; rw [if_pos hp]
    · rw [if_neg (h k (Nat.le_refl _) (by omega)), fd_at hp n (k + 1) (by omega) (by omega) (fun i h3 h4 => h i (by omega) h4)]
/-- what the specification finds: the place, or -1 -/
theorem fd_eq {g : Nat → Int} {n : Nat} (x : Int) (hr : risL (fl g (n * 4)) n) : fdN g x 0 n = if fdB (fl g (n * 4)) n x = true then ((plL (fl g (n * 4)) n x : Nat) : Int) else -1 := by
  have hp := plL_is x hr
  obtain ⟨h1, h2, h3⟩ := hp
  unfold fdB
  generalize plL (fl g (n * 4)) n x = p at *
  by_cases hf : p < n ∧ gL (fl g (n * 4)) (p * 4) = x
  · rw [decide_eq_true hf, if_pos rfl]
    have hgp : g (p * 4) = x := by rw [← gL_fl g (n * 4) (p * 4) (by omega)]; exact hf.2
    refine fd_at hgp n 0 (by omega) (by omega) (fun i _ hi => ?_)
    have := h2 i hi
    rw [gL_fl _ _ _ (by omega)] at this
    omega
  · rw [decide_eq_false hf, if_neg (by decide)]
    refine fd_no n 0 (fun i _ hi => ?_)
    by_cases hip : i < p
    · have := h2 i hip; rw [gL_fl _ _ _ (by omega)] at this; omega
    · intro e
      have h5 := h3 p (Nat.le_refl _) (by omega)
      by_cases hpi : p = i
      · subst hpi
        exact hf ⟨by omega, by rw [gL_fl _ _ _ (by omega)]; exact e⟩
      · have h4 := hr p i (by omega) (by omega)
        rw [gL_fl g (n * 4) (i * 4) (by omega), e] at h4
        omega

theorem ins_app {A B xs : List Int} {p : Nat} (h : p * 4 ≤ A.length) : insL (A ++ B) p xs = insL A p xs ++ B := by
  unfold insL
  rw [List.take_append_of_le_length h, List.drop_append_of_le_length h, ← List.append_assoc]
theorem ins_end {A xs : List Int} {p : Nat} (h : A.length = p * 4) : insL A p xs = A ++ xs := by
  unfold insL
  rw [← h, List.take_length, List.drop_length, List.append_nil]
theorem take4 {L : List Int} {n k : Nat} (hl : L.length = n * 4) (hk : k < n) : L.take ((k + 1) * 4) = L.take (k * 4) ++ [gL L (k * 4), gL L (k * 4 + 1), gL L (k * 4 + 2), gL L (k * 4 + 3)] := by
  have t1 : ∀ j, j < L.length → L.take (j + 1) = L.take j ++ [gL L j] := fun j hj => by
    rw [List.take_add_one, List.getElem?_eq_getElem hj]
    unfold gL
    rw [List.getD_eq_getElem?_getD, List.getElem?_eq_getElem hj]; rfl
  rw [show (k + 1) * 4 = k * 4 + 1 + 1 + 1 + 1 by omega, t1 _ (by omega), t1 _ (by omega), t1 _ (by omega), t1 _ (by omega)]
  simp
/-- the orders when k are through, one being put in at p -/
def inK (L : List Int) (p : Nat) (xs : List Int) (k : Nat) : List Int := if p < k then insL (L.take (k * 4)) p xs else L.take (k * 4)
/-- how many -/
def inN (p k : Nat) : Nat := if p < k then k + 1 else k
theorem inK_0 (L : List Int) (p : Nat) (xs : List Int) : inK L p xs 0 = [] := by unfold inK; rw [if_neg (by omega)]; simp
theorem inN_0 (p : Nat) : inN p 0 = 0 := by unfold inN; rw [if_neg (by omega)]
theorem inK_past {L : List Int} {n k p : Nat} {xs : List Int} (hl : L.length = n * 4) (hk : k < n) (hp : k < p) : inK L p xs (k + 1) = inK L p xs k ++ [gL L (k * 4), gL L (k * 4 + 1), gL L (k * 4 + 2), gL L (k * 4 + 3)] ∧ inN p (k + 1) = inN p k + 1 := by
  unfold inK inN
  rw [if_neg (by omega), if_neg (by omega), if_neg (by omega), if_neg (by omega), take4 hl hk]
  exact ⟨rfl, rfl⟩
theorem inK_at {L : List Int} {n k : Nat} {xs : List Int} (hl : L.length = n * 4) (hk : k < n) : inK L k xs (k + 1) = inK L k xs k ++ xs ++ [gL L (k * 4), gL L (k * 4 + 1), gL L (k * 4 + 2), gL L (k * 4 + 3)] ∧ inN k (k + 1) = inN k k + 1 + 1 := by
  have h1 : (L.take (k * 4)).length = k * 4 := by rw [List.length_take]; omega
  unfold inK inN
  rw [if_pos (by omega), if_neg (by omega), if_pos (by omega), if_neg (by omega), take4 hl hk, ins_app (by omega), ins_end h1]
  exact ⟨rfl, rfl⟩
theorem inK_laid {L : List Int} {n k p : Nat} {xs : List Int} (hl : L.length = n * 4) (hk : k < n) (hp : p < k) : inK L p xs (k + 1) = inK L p xs k ++ [gL L (k * 4), gL L (k * 4 + 1), gL L (k * 4 + 2), gL L (k * 4 + 3)] ∧ inN p (k + 1) = inN p k + 1 := by
  have h1 : (L.take (k * 4)).length = k * 4 := by rw [List.length_take]; omega
  unfold inK inN
  rw [if_pos (by omega), if_pos (by omega), if_pos (by omega), if_pos (by omega), take4 hl hk, ins_app (by omega)]
  exact ⟨rfl, rfl⟩
theorem inK_end {L : List Int} {n p : Nat} {xs : List Int} (hl : L.length = n * 4) (hp : p < n) : inK L p xs n = insL L p xs ∧ inN p n = n + 1 := by
  unfold inK inN
  rw [if_pos hp, if_pos hp, ← hl, List.take_length]
  exact ⟨rfl, rfl⟩
theorem inK_last {L : List Int} {n : Nat} {xs : List Int} (hl : L.length = n * 4) : inK L n xs n ++ xs = insL L n xs ∧ inN n n = n := by
  unfold inK inN
  rw [if_neg (by omega), if_neg (by omega), ins_end hl, ← hl, List.take_length]
  exact ⟨rfl, rfl⟩

/-- the boxes of l16Do -/
abbrev doBoxes (w : World) (c : Int) (a : Option Addr) (n cap : Nat) (kd id du : Int) : List BoxT := [(w.heap.size + 2, [.int .i64 0, .slice none 0 0]), (w.heap.size + 1, [.int .i64 kd, .int .i64 id, .int .i64 du]), (w.heap.size, [.int .i64 c, .slice a n cap])]
theorem l16Fin {w wA wz : World} {c : Int} {a : Option Addr} {n cap : Nat} {kd id du : Int} {O n' : Nat} {c' : Int} {v' : Value} {L' : List Int} (hS : St w (doBoxes w c a n cap kd id du) [] wA) (hsz : w.heap.size + 2 < wA.heap.size)
    (hF : FS wA.heap.size O c' v' n' L' wz) (hB : Below wA.heap.size wA wz) :
    ∃ ad cp, v' = .slice ad n' cp ∧ wz.cell? ⟨O, 0, none⟩ = some (.int .i64 c') ∧ wz.cell? ⟨O, 1, none⟩ = some v' ∧
      wz.cell? ⟨w.heap.size + 2, 0, none⟩ = some (.int .i64 0) ∧ wz.cell? ⟨w.heap.size + 2, 1, none⟩ = some (.slice none 0 0) ∧ wz.frozen? ⟨w.heap.size + 2, 0, none⟩ = false ∧ wz.frozen? ⟨w.heap.size + 2, 1, none⟩ = false ∧
      ((wz.setCell ⟨w.heap.size + 2, 0, none⟩ (.int .i64 c')).setCell ⟨w.heap.size + 2, 1, none⟩ v').cell? ⟨w.heap.size + 2, 0, none⟩ = some (.int .i64 c') ∧ ((wz.setCell ⟨w.heap.size + 2, 0, none⟩ (.int .i64 c')).setCell ⟨w.heap.size + 2, 1, none⟩ v').cell? ⟨w.heap.size + 2, 1, none⟩ = some v' ∧
      ∀ code, FlR c' n' (gL L') code w (.returned (.tuple #[.agg #[.int .i64 c', v'], .int .i64 code])) ((wz.setCell ⟨w.heap.size + 2, 0, none⟩ (.int .i64 c')).setCell ⟨w.heap.size + 2, 1, none⟩ v') := by
  have hS3 := hS.next hB
  obtain ⟨ad, cp, rfl, -, -⟩ := own_pxO hF.own
  have hE := St.fill (L1 := []) (St.fill (L1 := []) hS3 0 (.int .i64 c')) 1 (.slice ad n' cp)
  have hO := owns_set (owns_set (owns_mono hF.own (B' := w.heap.size) (by omega)) (q := ⟨w.heap.size + 2, 0, none⟩) (fun b hb => by have := (hF.own.lt b hb).1; show b ≠ w.heap.size + 2; omega) (.int .i64 c')) (q := ⟨w.heap.size + 2, 1, none⟩) (fun b hb => by have := (hF.own.lt b hb).1; show b ≠ w.heap.size + 2; omega) (.slice ad n' cp)
  obtain ⟨k0, k1⟩ := hS3.im2 0 rfl
  obtain ⟨e0, e1⟩ := hS3.fr2 0 rfl
  obtain ⟨a', cp', b', ha, how, hbb, hnn⟩ := ow_O hO
  cases ha
  exact ⟨ad, cp, rfl, (hF.box 0 _ rfl).1, (hF.box 1 _ rfl).1, k0, k1, e0, e1, (hE.im2 0 rfl).1, (hE.im2 0 rfl).2, fun code => ⟨ad, cp, b', rfl, how, hbb, hE.below, hnn⟩⟩

theorem l16Fin2 {w wA wz : World} {c : Int} {a : Option Addr} {n cap : Nat} {kd id du : Int} {O n' : Nat} {c' : Int} {v' : Value} {L' : List Int} (hS : St w (doBoxes w c a n cap kd id du) [] wA) (hsz : w.heap.size + 2 < wA.heap.size)
    (hF : FS wA.heap.size O c' v' n' L' wz) (hB : Below wA.heap.size wA wz) {K C code : Int} {N : Nat} {G : Nat → Int} (hK : K = c') (hN : N = n') (hG : G = gL L') (hC : C = code) :
    ∃ ad cp, v' = .slice ad n' cp ∧ wz.cell? ⟨O, 0, none⟩ = some (.int .i64 c') ∧ wz.cell? ⟨O, 1, none⟩ = some v' ∧
      wz.cell? ⟨w.heap.size + 2, 0, none⟩ = some (.int .i64 0) ∧ wz.cell? ⟨w.heap.size + 2, 1, none⟩ = some (.slice none 0 0) ∧ wz.frozen? ⟨w.heap.size + 2, 0, none⟩ = false ∧ wz.frozen? ⟨w.heap.size + 2, 1, none⟩ = false ∧
      ((wz.setCell ⟨w.heap.size + 2, 0, none⟩ (.int .i64 c')).setCell ⟨w.heap.size + 2, 1, none⟩ v').cell? ⟨w.heap.size + 2, 0, none⟩ = some (.int .i64 c') ∧ ((wz.setCell ⟨w.heap.size + 2, 0, none⟩ (.int .i64 c')).setCell ⟨w.heap.size + 2, 1, none⟩ v').cell? ⟨w.heap.size + 2, 1, none⟩ = some v' ∧
      FlR K N G C w (.returned (.tuple #[.agg #[.int .i64 c', v'], .int .i64 code])) ((wz.setCell ⟨w.heap.size + 2, 0, none⟩ (.int .i64 c')).setCell ⟨w.heap.size + 2, 1, none⟩ v') := by
  subst hK hN hG hC
  obtain ⟨ad, cp, h1, h2, h3, h4, h5, h6, h7, h8, h9, hV⟩ := l16Fin hS hsz hF hB
  exact ⟨ad, cp, h1, h2, h3, h4, h5, h6, h7, h8, h9, hV _⟩

theorem ins_test {g : Nat → Int} {n : Nat} {x : Int} (hr : risL (fl g (n * 4)) n) (hf : fdB (fl g (n * 4)) n x = false) (hp : isPl (gL (fl g (n * 4))) n x (plL (fl g (n * 4)) n x)) :
    ∀ k, k < n → (k < plL (fl g (n * 4)) n x → ¬ x < g (k * 4)) ∧ (plL (fl g (n * 4)) n x ≤ k → x < g (k * 4)) := by
  intro k hk
  obtain ⟨h1, h2, h3⟩ := hp
  unfold fdB at hf
  generalize plL (fl g (n * 4)) n x = p at *
  have hf' := of_decide_eq_false hf
  have e : gL (fl g (n * 4)) (k * 4) = g (k * 4) := gL_fl _ _ _ (by omega)
  refine ⟨fun h => ?_, fun h => ?_⟩
  · have := h2 k h; rw [e] at this; omega
  · have := h3 k h hk
    rw [e] at this
    by_cases q : x = g (k * 4)
    · exfalso
      by_cases hkp : k = p
      · subst hkp; exact hf' ⟨hk, by rw [e]; exact q.symm⟩
      · have h4 := hr p k (by omega) hk
        have h5 := h3 p (Nat.le_refl _) (by omega)
        rw [e] at h4
        omega
    · omega

/-- a list of orders that is put together beside the box X of one order -/
structure InS (wB : World) (X : Nat) (id du : Int) (v : Value) (m : Nat) (L : List Int) (wr : World) : Prop where
  own : wr.ownsRow wB.heap.size 41 4 v m (ints L)
  bel : Below wB.heap.size wB wr
  box : Bx X [.int .i64 id, .int .i64 1, .int .i64 du, .int .i64 0] wr
  far : ∀ b, v.ownBlock = some b → b ≠ X
theorem InS.start (w : World) (id du : Int) : InS w (w.heap.size + 1) id du (.slice (some ⟨w.heap.size, 0, none⟩) 0 0) 0 [] ((w.alloc (.cells #[] 41)).alloc (.cells #[.int .i64 id, .int .i64 1, .int .i64 du, .int .i64 0] 41)) := by
  have hq : (w.alloc (.cells #[] 41)).heap.size = w.heap.size + 1 := by simp
  have hx := Bx.new [.int .i64 id, .int .i64 1, .int .i64 du, .int .i64 0] 41 (w.alloc (.cells #[] 41))
  rw [hq] at hx
  have hb := bnew w (.cells #[] 41)
  exact ⟨(World.ownsRow_made w #[] 0 (Nat.le_refl _) (Nat.zero_le _) rfl).alloc _, hb.alloc hb.size _, hx, fun b hb => by cases hb; exact Nat.ne_of_lt (Nat.lt_succ_self _)⟩
theorem InS.grown {wB : World} {X : Nat} {id du : Int} {v v' : Value} {m m' : Nat} {L L' : List Int} {wr w' : World} (h : InS wB X id du v m L wr) (ho : w'.ownsRow wB.heap.size 41 4 v' m' (ints L')) (hb : Below wB.heap.size wB w') (hk : KpV v wr w') (hm : Moved v v' wr) : InS wB X id du v' m' L' w' := by
  have hX : X < wr.heap.size := World.block_lt_of_cell? _ _ (h.box 0 _ rfl).1
  have hv : v.ownBlock ≠ some X := fun e => h.far X e rfl
  refine ⟨ho, hb, fun j u hj => ?_, fun b hb' e => ?_⟩
  · obtain ⟨h1, h2⟩ := h.box j u hj
    exact ⟨(World.cell?_of_block (a := ⟨X, j, none⟩) (hk X hX hv)).trans h1, (World.frozen?_of_block (a := ⟨X, j, none⟩) (hk X hX hv)).trans h2⟩
  · subst e
    rcases hm b hb' with h3 | h3
    · exact hv h3
    · omega
theorem growO (w : World) {ops : Array Oper} {rest : List Oper} {o : Oper} {a : Act} {Q : Exit → Act → World → Prop} (hgd : o.guard = none) (s x : Operand)
    (ho : o.op = .call { callee := .builtin .append, args := #[s, x], argTypes := #[26, 26] }) (wB : World) (X : Nat) (id du : Int) (v : Value) (n : Nat) (L : List Int) (hs : a.eval s = v) (h0 : InS wB X id du v n L w)
    (x0 x1 x2 x3 : Int) (hx : a.eval x = .slice (some ⟨w.heap.size, 0, none⟩) 1 1) (hn : n ≤ 1048576)
    (h : ∀ v' w', InS wB X id du v' (n + 1) (L ++ [x0, x1, x2, x3]) w' → wpList Try.prog ops Q rest (a.put o.dst v') w') :
    wpList Try.prog ops Q (o :: rest) a (w.alloc (.cells #[.int .i64 x0, .int .i64 x1, .int .i64 x2, .int .i64 x3] 41)) := by
  obtain ⟨ti, hi1, hi2, hi3, hi4⟩ := infoO
  exact growM w hgd s x 26 ho wB.heap.size 41 ti (vOrder 0 0 0 0) 4 32 Try.underlying26 hi1 hi2 hi3 hi4 rfl (by omega) v n L hs wB h0.own h0.bel h0.bel.size [x0, x1, x2, x3] 1 1 hx rfl (by omega) (by unfold maxLen; omega) (by omega) (fun v' w' h1 h2 _ h3 h4 => h v' w' (h0.grown h1 h2 h3 h4))
theorem InS.drewN {wB : World} {X : Nat} {id du : Int} {v : Value} {m : Nat} {L : List Int} {wr : World} (h : InS wB X id du v m L wr) (d : Nat) : InS wB X id du v m L (wr.drewN d) :=
  have hb : Below wr.heap.size wr (wr.drewN d) := below_drewN (Below.refl _ _) d
  ⟨ownsRow_below' h.own hb, below_drewN h.bel d, h.box.below hb (World.block_lt_of_cell? _ _ (h.box 0 _ rfl).1), h.far⟩
theorem InS.flow {wB : World} {X B O : Nat} {id du c : Int} {v v' : Value} {m n : Nat} {L L' : List Int} {wr : World} (h : InS wB X id du v' m L' wr) (hF : FS B O c v n L wB) :
    FS B O c v' m L' (wr.setCell ⟨O, 1, none⟩ v') ∧ Below B wB (wr.setCell ⟨O, 1, none⟩ v') ∧ wr.cell? ⟨O, 1, none⟩ = some v ∧ wr.frozen? ⟨O, 1, none⟩ = false := by
  have hO := hF.lt
  have hB : B ≤ wB.heap.size := Nat.le_trans hF.hB (Nat.le_of_lt hO)
  have hbx := hF.box.below h.bel hO
  have hne : ∀ b, v'.ownBlock = some b → b ≠ O := fun b hb => by have := (h.own.lt b hb).1; omega
  exact ⟨⟨hbx.set 1 v', owns_set (owns_mono h.own hB) (q := ⟨O, 1, none⟩) hne _, hF.hB, hne, fun _ _ h => (by cases h)⟩, (h.bel.mono hB).setCell hF.hB _, (hbx 1 _ rfl).1, (hbx 1 _ rfl).2⟩
theorem mv2 (L : List Int) (p : Nat) : (L.set (p * 4 + 1) 2).set (p * 4 + 3) (gL L (p * 4 + 3)) = L.set (p * 4 + 1) 2 := by
  rw [← gL_set L (p * 4 + 3) (p * 4 + 1) 2 (by omega)]; exact set_self _ _

end Go.Proofs.Ytfhfddmiiopgdaa
