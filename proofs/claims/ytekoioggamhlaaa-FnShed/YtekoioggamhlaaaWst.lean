/- Watersheds: numbers alone. -/
import Derived.Test.YtekoioggamhlaaaWhp
import Derived.Test.YtekoioggamhlaaaUpd
namespace Go.Proofs.Ytekoioggamhlaaa
open Go.RowKit

/-- whose each place is or will be, what waits, when each came to wait, how many did -/
structure Ws where
  o : Nat → Int
  W : List Nat
  t : Nat → Int
  c : Nat
/-- a place beside p is met -/
def ms1 (p : Nat) (s : Ws) (x : Int) : Ws := if s.o x.toNat = 0 then ⟨updN s.o x.toNat (s.o p), s.W ++ [x.toNat], updN s.t x.toNat s.c, s.c + 1⟩ else s
def msL (p : Nat) (s : Ws) (L : List Int) : Ws := L.foldl (ms1 p) s
theorem msL_snoc (p : Nat) (s : Ws) (L : List Int) (x : Int) : msL p s (L ++ [x]) = ms1 p (msL p s L) x := by simp [msL]
theorem msL_nil (p : Nat) (s : Ws) : msL p s [] = s := rfl
/-- how much is still to come -/
def fr0 (n : Nat) (o : Nat → Int) : Nat := ((List.range n).filter fun q => decide (o q = 0)).length
theorem fr0_le (n : Nat) (o : Nat → Int) : fr0 n o ≤ n := by
  unfold fr0
  have := List.length_filter_le (fun q => decide (o q = 0)) (List.range n)
  simpa using this
theorem fr0_succ (n : Nat) (o : Nat → Int) : fr0 (n + 1) o = fr0 n o + if o n = 0 then 1 else 0 := by
  unfold fr0
  rw [List.range_succ, List.filter_append, List.length_append]
  congr 1
  by_cases h : o n = 0 <;> simp [h]
theorem fr0_upd : ∀ (n : Nat) (o : Nat → Int) (x : Nat) (v : Int), v ≠ 0 → o x = 0 → (x < n → fr0 n (updN o x v) + 1 = fr0 n o) ∧ (n ≤ x → fr0 n (updN o x v) = fr0 n o)
  | 0, o, x, v, hv, hx => ⟨fun h => absurd h (Nat.not_lt_zero _), fun _ => rfl⟩
  | n + 1, o, x, v, hv, hx => by
    obtain ⟨h1, h2⟩ := fr0_upd n o x v hv hx
    rw [fr0_succ, fr0_succ]
    unfold updN at *
    refine ⟨fun h => ?_, fun h => ?_⟩
    · by_cases e : n = x
      · subst e
        rw [if_pos rfl, if_neg hv, if_pos hx, h2 (Nat.le_refl _)]
      · rw [if_neg e]
        have := h1 (by omega)
        omega
    · rw [if_neg (show n ≠ x by omega), h2 (by omega)]
def pot (n : Nat) (s : Ws) : Nat := s.W.length + fr0 n s.o

/-- what always holds -/
structure WsI (n : Nat) (s : Ws) : Prop where
  nd : s.W.Nodup
  own : ∀ q ∈ s.W, s.o q ≠ 0
  lt : ∀ q ∈ s.W, q < n
  tc : ∀ q ∈ s.W, 0 ≤ s.t q ∧ s.t q < s.c
  inj : ∀ p ∈ s.W, ∀ q ∈ s.W, s.t p = s.t q → p = q
theorem ms1_yes {p : Nat} {s : Ws} {x : Int} (h : s.o x.toNat = 0) : ms1 p s x = ⟨updN s.o x.toNat (s.o p), s.W ++ [x.toNat], updN s.t x.toNat s.c, s.c + 1⟩ := if_pos h
theorem ms1_no {p : Nat} {s : Ws} {x : Int} (h : s.o x.toNat ≠ 0) : ms1 p s x = s := if_neg h
theorem ms1_own {p : Nat} {s : Ws} {x : Int} {q : Nat} (h : s.o q ≠ 0) : (ms1 p s x).o q = s.o q := by
  by_cases e : s.o x.toNat = 0
  · rw [ms1_yes e]
    unfold updN
    simp only
    rw [if_neg (fun h' => h (by rw [h']; exact e))]
  · rw [ms1_no e]
theorem WsI.ms1 {n p : Nat} {s : Ws} {x : Int} (h : WsI n s) (hp : s.o p ≠ 0) (hx : x.toNat < n) : WsI n (ms1 p s x) := by
  by_cases e : s.o x.toNat = 0
  · rw [ms1_yes e]
    have hw : x.toNat ∉ s.W := fun h' => h.own _ h' e
    refine ⟨?_, fun q hq => ?_, fun q hq => ?_, fun q hq => ?_, fun a ha b hb => ?_⟩
    · rw [List.nodup_append]
      exact ⟨h.nd, by simp, fun a ha b hb => by simp at hb; subst hb; intro h'; subst h'; exact hw ha⟩
    · simp only [updN]
      rcases List.mem_append.1 hq with hq | hq
      · rw [if_neg (fun (h' : q = x.toNat) => hw (h' ▸ hq))]; exact h.own q hq
      · simp at hq; rw [if_pos hq]; exact hp
    · rcases List.mem_append.1 hq with hq | hq
      · exact h.lt q hq
      · simp at hq; rw [hq]; exact hx
    · simp only [updN]
      rcases List.mem_append.1 hq with hq | hq
      · rw [if_neg (fun (h' : q = x.toNat) => hw (h' ▸ hq))]; have := h.tc q hq; omega
      · simp at hq; rw [if_pos hq]; omega
    · simp only [updN]
      rcases List.mem_append.1 ha with ha | ha <;> rcases List.mem_append.1 hb with hb | hb
      · rw [if_neg (fun (h' : a = x.toNat) => hw (h' ▸ ha)), if_neg (fun (h' : b = x.toNat) => hw (h' ▸ hb))]; exact h.inj a ha b hb
      · simp at hb
        rw [if_neg (fun (h' : a = x.toNat) => hw (h' ▸ ha)), if_pos hb]
        intro h'; have := h.tc a ha; omega
      · simp at ha
        rw [if_pos ha, if_neg (fun (h' : b = x.toNat) => hw (h' ▸ hb))]
        intro h'; have := h.tc b hb; omega
      · simp at ha hb; intro _; rw [ha, hb]
  · rw [ms1_no e]; exact h
theorem ms1_pot {n p : Nat} {s : Ws} {x : Int} (hp : s.o p ≠ 0) (hx : x.toNat < n) : pot n (ms1 p s x) = pot n s := by
  by_cases e : s.o x.toNat = 0
  · rw [ms1_yes e]
    unfold pot
    have := (fr0_upd n s.o x.toNat (s.o p) hp e).1 hx
    simp only [List.length_append, List.length_singleton]
    omega
  · rw [ms1_no e]
theorem ms1_c {p : Nat} {s : Ws} {x : Int} : (ms1 p s x).c ≤ s.c + 1 := by
  by_cases e : s.o x.toNat = 0
  · rw [ms1_yes e]; exact Nat.le_refl _
  · rw [ms1_no e]; omega
theorem ms1_cp {n p : Nat} {s : Ws} {x : Int} (hp : s.o p ≠ 0) (hx : x.toNat < n) : (ms1 p s x).c + fr0 n (ms1 p s x).o = s.c + fr0 n s.o := by
  by_cases e : s.o x.toNat = 0
  · rw [ms1_yes e]
    have := (fr0_upd n s.o x.toNat (s.o p) hp e).1 hx
    simp only
    omega
  · rw [ms1_no e]
theorem msL_all {n p : Nat} : ∀ (L : List Int) (s : Ws), WsI n s → s.o p ≠ 0 → (∀ x ∈ L, x.toNat < n) → WsI n (msL p s L) ∧ (msL p s L).o p = s.o p ∧ pot n (msL p s L) = pot n s ∧ (msL p s L).c + fr0 n (msL p s L).o = s.c + fr0 n s.o ∧ ∀ q, s.o q ≠ 0 → (msL p s L).o q = s.o q
  | [], s, h, hp, hL => ⟨h, rfl, rfl, rfl, fun _ _ => rfl⟩
  | x :: t, s, h, hp, hL => by
    have hx := hL x List.mem_cons_self
    have h1 := ms1_own (p := p) (s := s) (x := x) hp
    obtain ⟨g1, g2, g3, g4, g5⟩ := msL_all t (ms1 p s x) (h.ms1 hp hx) (by rw [h1]; exact hp) (fun y hy => hL y (List.mem_cons_of_mem _ hy))
    refine ⟨g1, g2.trans h1, g3.trans (ms1_pot hp hx), g4.trans (ms1_cp hp hx), fun q hq => ?_⟩
    have h2 := ms1_own (p := p) (s := s) (x := x) hq
    show (msL p (ms1 p s x) t).o q = _
    rw [g5 q (by rw [h2]; exact hq), h2]

/-- the foremost of what waits -/
def Fst (im : Nat → Int) (s : Ws) (b : Nat) : Prop := b ∈ s.W ∧ ∀ q ∈ s.W, im b < im q ∨ (im b = im q ∧ s.t b ≤ s.t q)
theorem Fst.uniq {n : Nat} {im : Nat → Int} {s : Ws} {a b : Nat} (hi : WsI n s) (ha : Fst im s a) (hb : Fst im s b) : a = b := by
  have h1 := ha.2 b hb.1
  have h2 := hb.2 a ha.1
  exact hi.inj a ha.1 b hb.1 (by omega)
/-- it is taken -/
def tk (s : Ws) (b : Nat) : Ws := ⟨s.o, s.W.erase b, s.t, s.c⟩
theorem WsI.tk {n : Nat} {s : Ws} {b : Nat} (h : WsI n s) : WsI n (tk s b) :=
  ⟨h.nd.erase b, fun q hq => h.own q (List.mem_of_mem_erase hq), fun q hq => h.lt q (List.mem_of_mem_erase hq), fun q hq => h.tc q (List.mem_of_mem_erase hq), fun p hp q hq => h.inj p (List.mem_of_mem_erase hp) q (List.mem_of_mem_erase hq)⟩
theorem tk_pot {n : Nat} {s : Ws} {b : Nat} (h : b ∈ s.W) : pot n (tk s b) + 1 = pot n s := by
  unfold pot tk
  have h1 := List.length_erase_of_mem h
  have h2 := List.length_pos_of_mem h
  simp only [h1]
  omega
/-- what comes of it -/
inductive Wrun (im : Nat → Int) (nb : Nat → List Int) : Ws → (Nat → Int) → Prop
  | done (s : Ws) : s.W = [] → Wrun im nb s s.o
  | step (s : Ws) (b : Nat) (F : Nat → Int) : Fst im s b → Wrun im nb (msL b (tk s b) (nb b)) F → Wrun im nb s F
theorem Wrun.same {n : Nat} {im : Nat → Int} {nb : Nat → List Int} (hnb : ∀ p, p < n → ∀ x ∈ nb p, x.toNat < n) {s : Ws} {F G : Nat → Int} (h : Wrun im nb s F) (hi : WsI n s) (k : Wrun im nb s G) : F = G := by
  induction h generalizing G with
  | done s hs =>
    cases k with
    | done _ _ => rfl
    | step _ b _ hb _ => rw [Fst, hs] at hb; exact absurd hb.1 (by simp)
  | step s b F hb _ ih =>
    cases k with
    | done _ hs => rw [Fst, hs] at hb; exact absurd hb.1 (by simp)
    | step _ b' _ hb' k =>
      obtain rfl := hb.uniq hi hb'
      exact ih (msL_all _ _ hi.tk (hi.own b hb.1) (hnb b (hi.lt b hb.1))).1 k

/-- the start: what lies beside the seeds is met, one behind the other -/
def ws0 (o : Nat → Int) : Ws := ⟨o, [], fun _ => 0, 0⟩
def sd (o : Nat → Int) (nb : Nat → List Int) : Nat → Ws
  | 0 => ws0 o
  | k + 1 => if o k ≠ 0 then msL k (sd o nb k) (nb k) else sd o nb k
theorem sd_all {n : Nat} {o : Nat → Int} {nb : Nat → List Int} (hnb : ∀ p, p < n → ∀ x ∈ nb p, x.toNat < n) : ∀ k, k ≤ n → WsI n (sd o nb k) ∧ pot n (sd o nb k) = fr0 n o ∧ (sd o nb k).c + fr0 n (sd o nb k).o = fr0 n o ∧ ∀ q, o q ≠ 0 → (sd o nb k).o q = o q
  | 0, _ => ⟨⟨List.nodup_nil, fun _ h => (by cases h), fun _ h => (by cases h), fun _ h => (by cases h), fun _ h => (by cases h)⟩, by simp [sd, ws0, pot], by simp [sd, ws0], fun _ _ => rfl⟩
  | k + 1, hk => by
    obtain ⟨h1, h2, h3, h4⟩ := sd_all hnb k (by omega)
    unfold sd
    by_cases e : o k = 0
    · rw [if_neg (fun h => h e)]; exact ⟨h1, h2, h3, h4⟩
    · rw [if_pos e]
      obtain ⟨g1, _, g3, g4, g5⟩ := msL_all (nb k) (sd o nb k) h1 (by rw [h4 k e]; exact e) (hnb k (by omega))
      exact ⟨g1, g3.trans h2, g4.trans h3, fun q hq => by rw [g5 q (by rw [h4 q hq]; exact hq), h4 q hq]⟩
open Classical in
/-- whose each pixel is in the end -/
noncomputable def shd (n : Nat) (im o : Nat → Int) (nb : Nat → List Int) : Nat → Int := if h : ∃ F, Wrun im nb (sd o nb n) F then Classical.choose h else fun _ => 0
theorem shd_eq {n : Nat} {im o : Nat → Int} {nb : Nat → List Int} (hnb : ∀ p, p < n → ∀ x ∈ nb p, x.toNat < n) {F : Nat → Int} (h : Wrun im nb (sd o nb n) F) : F = shd n im o nb := by
  have h' : ∃ F, Wrun im nb (sd o nb n) F := ⟨F, h⟩
  unfold shd
  rw [dif_pos h']
  exact h.same hnb (sd_all hnb n (Nat.le_refl _)).1 (Classical.choose_spec h')

/-- what waits, as items -/
def itm (im : Nat → Int) (s : Ws) (q : Nat) : I3 := (im q, s.t q, (q : Int))
def itms (im : Nat → Int) (s : Ws) : List I3 := s.W.map (itm im s)
theorem itms_put {im : Nat → Int} {n p : Nat} {s : Ws} {x : Int} (hi : WsI n s) (h : s.o x.toNat = 0) {L : List I3} (hp : L.Perm (itms im s)) : (L ++ [(im x.toNat, (s.c : Int), (x.toNat : Int))]).Perm (itms im (ms1 p s x)) := by
  rw [ms1_yes h]
  unfold itms
  simp only [List.map_append, List.map_cons, List.map_nil]
  refine List.Perm.append ?_ ?_
  · refine hp.trans ?_
    unfold itms
    rw [List.map_congr_left (f := itm im s) (g := itm im ⟨updN s.o x.toNat (s.o p), s.W ++ [x.toNat], updN s.t x.toNat s.c, s.c + 1⟩) (fun q hq => ?_)]
    have hw : q ≠ x.toNat := fun h' => hi.own q hq (h' ▸ h)
    unfold itm updN
    simp only
    rw [if_neg hw]
  · unfold itm updN
    simp
theorem itms_take {im : Nat → Int} {s : Ws} {L L' : List I3} {r : I3} (hp : L.Perm (itms im s)) (hr : L.Perm (r :: L')) (hm : ∀ y ∈ L, leI r y) : ∃ b, r = itm im s b ∧ Fst im s b ∧ L'.Perm (itms im (tk s b)) := by
  have h1 : r ∈ itms im s := hp.subset (hr.symm.subset List.mem_cons_self)
  obtain ⟨b, hb, rfl⟩ := List.mem_map.1 h1
  refine ⟨b, rfl, ⟨hb, fun q hq => hm _ (hp.symm.subset (List.mem_map.2 ⟨q, hq, rfl⟩))⟩, ?_⟩
  have h2 : (itm im s b :: L').Perm (itm im s b :: (s.W.erase b).map (itm im s)) := hr.symm.trans (hp.trans (by
    unfold itms
    exact (List.perm_cons_erase hb).map (itm im s)))
  exact h2.cons_inv

end Go.Proofs.Ytekoioggamhlaaa
