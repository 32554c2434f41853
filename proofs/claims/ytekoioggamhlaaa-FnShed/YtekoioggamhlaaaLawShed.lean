/- FnShed, walked. -/
import Derived.Test.YtekoioggamhlaaaDws
import Derived.Test.YtekoioggamhlaaaWsj
import Derived.Deep.RegionLaw
import Derived.Deep.AppendLies
namespace Go.Proofs.Ytekoioggamhlaaa
open Go.RowKit

/-- reached from a seed over places of one owner -/
inductive Rc (g F : Nat → Int) (nb : Nat → List Int) : Nat → Prop
  | seed (k : Nat) : g k ≠ 0 → Rc g F nb k
  | step (p : Nat) (x : Int) : Rc g F nb p → F p ≠ 0 → x ∈ nb p → F x.toNat = F p → Rc g F nb x.toNat
theorem Rc.mono {g F F' : Nat → Int} {nb : Nat → List Int} (hm : ∀ q, F q ≠ 0 → F' q = F q) {k : Nat} (h : Rc g F nb k) : Rc g F' nb k := by
  induction h with
  | seed k h => exact .seed k h
  | step p x _ h0 hx he ih => exact .step p x ih (by rw [hm p h0]; exact h0) hx (by rw [hm p h0, hm _ (by rw [he]; exact h0), he])
/-- what holds of each state -/
structure Inv (g : Nat → Int) (nb : Nat → List Int) (s : Ws) : Prop where
  rc : ∀ q, s.o q ≠ 0 → Rc g s.o nb q
  sd : ∀ q, g q ≠ 0 → s.o q = g q
theorem Inv.ms1 {g : Nat → Int} {nb : Nat → List Int} {s : Ws} {p : Nat} {x : Int} (h : Inv g nb s) (hp : s.o p ≠ 0) (hx : x ∈ nb p) : Inv g nb (ms1 p s x) := by
  have hk : ∀ q, s.o q ≠ 0 → (Go.Proofs.Ytekoioggamhlaaa.ms1 p s x).o q = s.o q := fun q hq => ms1_own hq
  refine ⟨fun q hq => ?_, fun q hq => by rw [hk q (by rw [h.sd q hq]; exact hq)]; exact h.sd q hq⟩
  by_cases h0 : s.o q = 0
  · by_cases e : s.o x.toNat = 0
    · have hqx : q = x.toNat := by
        rw [ms1_yes e] at hq
        simp only [updN] at hq
        by_cases h1 : q = x.toNat
        · exact h1
        · rw [if_neg h1] at hq; exact absurd h0 hq
      subst hqx
      refine .step p x ((h.rc p hp).mono hk) (by rw [hk p hp]; exact hp) hx ?_
      rw [hk p hp, ms1_yes e]
      simp [updN]
    · rw [ms1_no e] at hq; exact absurd h0 hq
  · exact (h.rc q h0).mono hk
theorem Inv.msL {g : Nat → Int} {nb : Nat → List Int} {p : Nat} : ∀ (L : List Int) {s : Ws}, Inv g nb s → s.o p ≠ 0 → (∀ x ∈ L, x ∈ nb p) → Inv g nb (msL p s L)
  | [], _, h, _, _ => h
  | x :: t, s, h, hp, hL => Inv.msL t (h.ms1 hp (hL x List.mem_cons_self)) (by rw [ms1_own hp]; exact hp) (fun y hy => hL y (List.mem_cons_of_mem _ hy))
theorem Inv.tk {g : Nat → Int} {nb : Nat → List Int} {s : Ws} {b : Nat} (h : Inv g nb s) : Inv g nb (tk s b) := ⟨h.rc, h.sd⟩
theorem Inv.sd0 {g : Nat → Int} {nb : Nat → List Int} : ∀ k, Inv g nb (Go.Proofs.Ytekoioggamhlaaa.sd g nb k)
  | 0 => ⟨fun q hq => .seed q hq, fun _ _ => rfl⟩
  | k + 1 => by
    have h := Inv.sd0 (g := g) (nb := nb) k
    unfold Go.Proofs.Ytekoioggamhlaaa.sd
    by_cases e : g k = 0
    · rw [if_neg (fun h => h e)]; exact h
    · rw [if_pos e]; exact h.msL (nb k) (by rw [h.sd k e]; exact e) (fun x hx => hx)
/-- in the end -/
theorem Wrun.inv {f g : Nat → Int} {n : Nat} {nb : Nat → List Int} (hnb : ∀ p, p < n → ∀ x ∈ nb p, x.toNat < n) {s : Ws} {F : Nat → Int} (h : Wrun f nb s F) (hi : WsI n s) (hv : Inv g nb s) : (∀ q, F q ≠ 0 → Rc g F nb q) ∧ ∀ q, g q ≠ 0 → F q = g q := by
  induction h with
  | done s _ => exact ⟨hv.rc, hv.sd⟩
  | step s b F hb _ ih =>
    have ho : (tk s b).o b ≠ 0 := hi.own b hb.1
    exact ih (msL_all (n := n) (nb b) (tk s b) hi.tk ho (hnb b (hi.lt b hb.1))).1 (hv.tk.msL (nb b) ho (fun x hx => hx))

theorem ms1_has {p : Nat} {s : Ws} {x : Int} (hp : s.o p ≠ 0) : (ms1 p s x).o x.toNat ≠ 0 := by
  by_cases e : s.o x.toNat = 0
  · rw [ms1_yes e]
    simp only [updN, if_true]
    exact hp
  · rw [ms1_no e]; exact e
theorem ms1_new {p : Nat} {s : Ws} {x : Int} : (∀ q, q ∈ s.W → q ∈ (ms1 p s x).W) ∧ ∀ q, (ms1 p s x).o q ≠ 0 → s.o q ≠ 0 ∨ q ∈ (ms1 p s x).W := by
  by_cases e : s.o x.toNat = 0
  · rw [ms1_yes e]
    refine ⟨fun q hq => List.mem_append_left _ hq, fun q hq => ?_⟩
    simp only [updN] at hq
    by_cases h1 : q = x.toNat
    · exact .inr (List.mem_append_right _ (List.mem_singleton.2 h1))
    · rw [if_neg h1] at hq; exact .inl hq
  · rw [ms1_no e]; exact ⟨fun _ h => h, fun _ h => .inl h⟩
theorem msL_keep {p : Nat} : ∀ (L : List Int) {s : Ws} {q : Nat}, s.o q ≠ 0 → (msL p s L).o q ≠ 0
  | [], _, _, h => h
  | x :: t, s, q, h => msL_keep t (s := ms1 p s x) (by rw [ms1_own h]; exact h)
theorem msL_has {p : Nat} : ∀ (L : List Int) {s : Ws}, s.o p ≠ 0 → ∀ x ∈ L, (msL p s L).o x.toNat ≠ 0
  | [], _, _, x, hx => by cases hx
  | y :: t, s, hp, x, hx => by
    have h1 : (ms1 p s y).o p ≠ 0 := by rw [ms1_own hp]; exact hp
    rcases List.mem_cons.1 hx with rfl | hx
    · exact msL_keep t (s := ms1 p s x) (ms1_has hp)
    · exact msL_has t h1 x hx
theorem msL_new {p : Nat} : ∀ (L : List Int) {s : Ws}, (∀ q, q ∈ s.W → q ∈ (msL p s L).W) ∧ ∀ q, (msL p s L).o q ≠ 0 → s.o q ≠ 0 ∨ q ∈ (msL p s L).W
  | [], _ => ⟨fun _ h => h, fun _ h => .inl h⟩
  | x :: t, s => by
    obtain ⟨a1, a2⟩ := ms1_new (p := p) (s := s) (x := x)
    obtain ⟨b1, b2⟩ := msL_new t (s := ms1 p s x)
    refine ⟨fun q hq => b1 q (a1 q hq), fun q hq => ?_⟩
    rcases b2 q hq with h | h
    · exact (a2 q h).imp id (b1 q)
    · exact .inr h
/-- what is owned and through has none beside it that is nobody's; the seeds from k on are not through -/
def Thr (g : Nat → Int) (nb : Nat → List Int) (k : Nat) (s : Ws) : Prop := ∀ p, s.o p ≠ 0 → p ∉ s.W → (k ≤ p ∧ g p ≠ 0) ∨ ∀ x ∈ nb p, s.o x.toNat ≠ 0
theorem Thr.meet {g : Nat → Int} {nb : Nat → List Int} {k' b : Nat} {s : Ws} (h : ∀ p, p ≠ b → s.o p ≠ 0 → p ∉ s.W → (k' ≤ p ∧ g p ≠ 0) ∨ ∀ x ∈ nb p, s.o x.toNat ≠ 0) (hb : s.o b ≠ 0) : Thr g nb k' (msL b s (nb b)) := fun p hp hw => by
  by_cases e : p = b
  · subst e; exact .inr (msL_has (nb p) hb)
  · obtain ⟨a1, a2⟩ := msL_new (p := b) (nb b) (s := s)
    rcases a2 p hp with h1 | h1
    · exact (h p e h1 (fun h2 => hw (a1 p h2))).imp id (fun h3 x hx => msL_keep (nb b) (h3 x hx))
    · exact absurd h1 hw
theorem sd_thr {g : Nat → Int} {nb : Nat → List Int} : ∀ k, Thr g nb k (sd g nb k)
  | 0 => fun p hp _ => .inl ⟨Nat.zero_le _, hp⟩
  | k + 1 => by
    have h := sd_thr (g := g) (nb := nb) k
    unfold sd
    by_cases e : g k = 0
    · rw [if_neg (fun h => h e)]
      intro p hp hw
      rcases h p hp hw with ⟨h1, h2⟩ | h1
      · exact .inl ⟨Nat.lt_of_le_of_ne h1 (fun h3 => h2 (h3 ▸ e)), h2⟩
      · exact .inr h1
    · rw [if_pos e]
      refine Thr.meet (fun p hne hp hw => ?_) (by rw [(Inv.sd0 (g := g) (nb := nb) k).sd k e]; exact e)
      rcases h p hp hw with ⟨h1, h2⟩ | h1
      · exact .inl ⟨by omega, h2⟩
      · exact .inr h1
/-- in the end none is left beside what is owned -/
theorem Wrun.closed {f g : Nat → Int} {n : Nat} {nb : Nat → List Int} (hnb : ∀ p, p < n → ∀ x ∈ nb p, x.toNat < n) {s : Ws} {F : Nat → Int} (h : Wrun f nb s F) (hi : WsI n s) (hv : Thr g nb n s) : ∀ p, p < n → F p ≠ 0 → ∀ x ∈ nb p, F x.toNat ≠ 0 := by
  induction h with
  | done s hW => exact fun p hp h0 => (hv p h0 (by rw [hW]; simp)).resolve_left (fun h => by omega)
  | step s b F hb _ ih =>
    have ho : (tk s b).o b ≠ 0 := hi.own b hb.1
    refine ih (msL_all (n := n) (nb b) (tk s b) hi.tk ho (hnb b (hi.lt b hb.1))).1 (Thr.meet (fun p hne hp hw => ?_) ho)
    exact hv p hp (fun h2 => hw ((List.mem_erase_of_ne hne).2 h2))

end Go.Proofs.Ytekoioggamhlaaa

namespace Go.Proofs.Ytekoioggamhlaaa
open Go.RowKit

theorem mem_if' {p : Prop} [Decidable p] {x : Int} (h : p) : x ∈ (if p then [x] else []) := by rw [if_pos h]; simp
theorem grid_nat {w h n : Nat} (hn : n = w * h) (hw : 1 ≤ w) {P : Nat → Prop} (hc : ∀ p, p < n → P p → ∀ x ∈ besL (w : Int) (h : Int) (p : Int), P x.toNat) {k0 : Nat} (hk0 : k0 < n) (h0 : P k0) : ∀ k, k < n → P k := by
  have em : ∀ p : Nat, (p : Int) % (w : Int) = ((p % w : Nat) : Int) := fun _ => rfl
  have ed : ∀ p : Nat, (p : Int) / (w : Int) = ((p / w : Nat) : Int) := fun _ => rfl
  have up : ∀ p, p < n → P p → w ≤ p → P (p - w) := fun p hp hP hle => by
    have h := hc p hp hP ((p : Int) - w) (by unfold besL besA; exact List.mem_append_left _ (List.mem_append_left _ (List.mem_append_left _ (mem_if' (by omega)))))
    rwa [show ((p : Int) - w).toNat = p - w by omega] at h
  have left : ∀ p, p < n → P p → 0 < p % w → P (p - 1) := fun p hp hP hle => by
    have h1 : 1 ≤ p := by rcases Nat.eq_zero_or_pos p with h | h; (rw [h, Nat.zero_mod] at hle; omega); (exact h)
    have h := hc p hp hP ((p : Int) - 1) (by unfold besL besB; exact List.mem_append_left _ (List.mem_append_left _ (List.mem_append_right _ (mem_if' (by rw [em]; omega)))))
    rwa [show ((p : Int) - 1).toNat = p - 1 by omega] at h
  have right : ∀ p, p < n → P p → p % w < w - 1 → P (p + 1) := fun p hp hP hle => by
    have h := hc p hp hP ((p : Int) + 1) (by unfold besL besC; exact List.mem_append_left _ (List.mem_append_right _ (mem_if' (by rw [em]; omega))))
    rwa [show ((p : Int) + 1).toNat = p + 1 by omega] at h
  have down : ∀ p, p < n → P p → p / w < h - 1 → P (p + w) := fun p hp hP hle => by
    have h := hc p hp hP ((p : Int) + w) (by unfold besL besD; exact List.mem_append_right _ (mem_if' (by rw [ed]; generalize p / w = y at *; omega)))
    rwa [show ((p : Int) + w).toNat = p + w by omega] at h
  have low : ∀ m p, p ≤ m → p < n → P p → P 0 := fun m => by
    induction m with
    | zero => exact fun p hp _ hP => by rwa [show p = 0 by omega] at hP
    | succ m ih =>
      intro p hp hpn hP
      by_cases hz : p = 0
      · rwa [hz] at hP
      · by_cases hm : 0 < p % w
        · exact ih (p - 1) (by omega) (by omega) (left p hpn hP hm)
        · have hle : w ≤ p := by
            rcases Nat.lt_or_ge p w with h | h
            · rw [Nat.mod_eq_of_lt h] at hm; omega
            · exact h
          exact ih (p - w) (by omega) (by omega) (up p hpn hP hle)
  have hP0 := low k0 k0 (Nat.le_refl _) hk0 h0
  have all : ∀ m k, k ≤ m → k < n → P k := fun m => by
    induction m with
    | zero => exact fun k hk _ => by rwa [show k = 0 by omega]
    | succ m ih =>
      intro k hk hkn
      by_cases hz : k = 0
      · rwa [hz]
      · by_cases hm : 0 < k % w
        · have e : (k - 1) % w = k % w - 1 := by
            have h1 := Nat.div_add_mod k w
            have h2 : k - 1 = w * (k / w) + (k % w - 1) := by omega
            have h3 := Nat.mod_lt k (show 0 < w by omega)
            rw [h2, Nat.mul_add_mod, Nat.mod_eq_of_lt (by omega)]
          have h3 := Nat.mod_lt k (show 0 < w by omega)
          have h := right (k - 1) (by omega) (ih (k - 1) (by omega) (by omega)) (by omega)
          rwa [show k - 1 + 1 = k by omega] at h
        · have hle : w ≤ k := by
            rcases Nat.lt_or_ge k w with h | h
            · rw [Nat.mod_eq_of_lt h] at hm; omega
            · exact h
          have e := Nat.div_eq_sub_div (show 0 < w by omega) hle
          have hd : k / w < h := (Nat.div_lt_iff_lt_mul (show 0 < w by omega)).2 (by rw [Nat.mul_comm, ← hn]; exact hkn)
          have h := down (k - w) (by omega) (ih (k - w) (by omega) (by omega)) (by omega)
          rwa [show k - w + w = k by omega] at h
  exact fun k hk => all k k (Nat.le_refl _) hk
theorem grid_all {W H : Int} {n : Nat} (hn : (n : Int) = W * H) (hW : 1 ≤ W) (hH : 1 ≤ H) {P : Nat → Prop} (hc : ∀ p : Nat, p < n → P p → ∀ x ∈ besL W H (p : Int), P x.toNat) {k0 : Nat} (hk0 : k0 < n) (h0 : P k0) : ∀ k, k < n → P k := by
  obtain ⟨w, rfl⟩ : ∃ w : Nat, W = w := ⟨W.toNat, by omega⟩
  obtain ⟨h, rfl⟩ : ∃ h : Nat, H = h := ⟨H.toNat, by omega⟩
  have e : ((n : Nat) : Int) = ((w * h : Nat) : Int) := by rw [hn, Int.natCast_mul]
  exact grid_nat (Int.ofNat.inj e) (by omega) hc hk0 h0

end Go.Proofs.Ytekoioggamhlaaa

namespace Go.Proofs.Ytekoioggamhlaaa
open Go.RowKit

theorem fst_ex (f t : Nat → Int) : ∀ (L : List Nat), L ≠ [] → ∃ b ∈ L, ∀ q ∈ L, f b < f q ∨ (f b = f q ∧ t b ≤ t q)
  | [], h => absurd rfl h
  | [a], _ => ⟨a, by simp, fun q hq => by rw [List.mem_singleton.1 hq]; exact .inr ⟨rfl, Int.le_refl _⟩⟩
  | a :: b :: l, _ => by
    obtain ⟨c, hc, h⟩ := fst_ex f t (b :: l) (by simp)
    by_cases hac : f a < f c ∨ (f a = f c ∧ t a ≤ t c)
    · refine ⟨a, List.mem_cons_self, fun q hq => ?_⟩
      rcases List.mem_cons.1 hq with rfl | hq
      · exact .inr ⟨rfl, Int.le_refl _⟩
      · have := h q hq
        omega
    · refine ⟨c, List.mem_cons_of_mem _ hc, fun q hq => ?_⟩
      rcases List.mem_cons.1 hq with rfl | hq
      · omega
      · exact h q hq
theorem Wrun.ex {f : Nat → Int} {n : Nat} {nb : Nat → List Int} (hnb : ∀ p, p < n → ∀ x ∈ nb p, x.toNat < n) : ∀ (m : Nat) (s : Ws), pot n s ≤ m → WsI n s → ∃ F, Wrun f nb s F := fun m => by
  induction m with
  | zero => exact fun s hp _ => ⟨s.o, .done s (List.eq_nil_of_length_eq_zero (by unfold pot at hp; omega))⟩
  | succ m ih =>
    intro s hp hi
    by_cases hW : s.W = []
    · exact ⟨s.o, .done s hW⟩
    · obtain ⟨b, hb, h⟩ := fst_ex f s.t s.W hW
      have ho : (tk s b).o b ≠ 0 := hi.own b hb
      obtain ⟨h1, -, h2, -⟩ := msL_all (n := n) (nb b) (tk s b) hi.tk ho (hnb b (hi.lt b hb))
      have h3 := tk_pot (n := n) hb
      obtain ⟨F, hF⟩ := ih (msL b (tk s b) (nb b)) (by omega) h1
      exact ⟨F, .step s b F ⟨hb, h⟩ hF⟩
/-- a seed keeps its own; what is owned is reached from a seed over places of one owner; where there is a seed, all are owned; where there is none, none is -/
theorem shd_all {W H : Int} {n : Nat} {f g : Nat → Int} (hn : (n : Int) = W * H) (hW : 1 ≤ W) (hH : 1 ≤ H) :
    (∀ q, g q ≠ 0 → shdV W H n f g q = g q) ∧ (∀ q, shdV W H n f g q ≠ 0 → Rc g (shdV W H n f g) (fun p => besL W H p) q) ∧ (∀ q k, q < n → g q ≠ 0 → k < n → shdV W H n f g k ≠ 0) ∧ ((∀ q, g q = 0) → ∀ k, shdV W H n f g k = 0) := by
  have hnb : ∀ p, p < n → ∀ x ∈ (fun p : Nat => besL W H p) p, x.toNat < n := fun p hp x hx => by
    have := besL_in hn hW hp x hx
    omega
  have hs := (sd_all (o := g) hnb n (Nat.le_refl _)).1
  obtain ⟨F, hF⟩ := Wrun.ex (f := f) hnb _ (sd g (fun p => besL W H p) n) (Nat.le_refl _) hs
  have e : shdV W H n f g = F := (shd_eq hnb hF).symm
  rw [e]
  obtain ⟨h1, h2⟩ := Wrun.inv (g := g) hnb hF hs (Inv.sd0 n)
  have h3 := Wrun.closed (g := g) hnb hF hs (sd_thr n)
  refine ⟨h2, h1, fun q k hq hg0 hk => ?_, fun h0 k => ?_⟩
  · exact grid_all (P := fun k => F k ≠ 0) hn hW hH (fun p hp hP x hx => h3 p hp hP x hx) hq (by show F q ≠ 0; rw [h2 q hg0]; exact hg0) k hk
  · by_cases hk : F k = 0
    · exact hk
    · have := h1 k hk
      exact absurd this (fun h => by
        induction h with
        | seed k h => exact h (h0 k)
        | step p x hr hp _ _ ih => exact ih hp (h1 p hp))

end Go.Proofs.Ytekoioggamhlaaa

namespace Go.Proofs.Ytekoioggamhlaaa
open Go.RowKit

/-- the seeds below k, in order -/
def sdA (g : Nat → Int) : Nat → List Nat
  | 0 => []
  | k + 1 => if g k = 0 then sdA g k else sdA g k ++ [k]
theorem sdA_mem (g : Nat → Int) : ∀ k q, q ∈ sdA g k ↔ q < k ∧ g q ≠ 0
  | 0, q => by simp [sdA]
  | k + 1, q => by
    have ih := sdA_mem g k q
    unfold sdA
    by_cases h : g k = 0
    · rw [if_pos h, ih]
      constructor
      · intro h1; exact ⟨by omega, h1.2⟩
      · intro h1
        refine ⟨?_, h1.2⟩
        rcases Nat.lt_or_ge q k with h2 | h2
        · exact h2
        · obtain rfl : q = k := by omega
          exact absurd h h1.2
    · rw [if_neg h, List.mem_append, ih, List.mem_singleton]
      constructor
      · rintro (h1 | rfl)
        · exact ⟨by omega, h1.2⟩
        · exact ⟨by omega, h⟩
      · intro h1
        rcases Nat.lt_or_ge q k with h2 | h2
        · exact .inl ⟨h2, h1.2⟩
        · exact .inr (by omega)
theorem sdA_nd (g : Nat → Int) : ∀ k, (sdA g k).Nodup
  | 0 => by simp [sdA]
  | k + 1 => by
    unfold sdA
    by_cases h : g k = 0
    · rw [if_pos h]; exact sdA_nd g k
    · rw [if_neg h, List.nodup_append]
      refine ⟨sdA_nd g k, by simp, fun x hx y hy => ?_⟩
      rw [List.mem_singleton] at hy
      have := ((sdA_mem g k x).1 hx).1
      omega
theorem sdA_len (g : Nat → Int) : ∀ k, (sdA g k).length ≤ k
  | 0 => by simp [sdA]
  | k + 1 => by
    have := sdA_len g k
    unfold sdA
    split
    · omega
    · simp; omega
theorem nd_len : ∀ (n : Nat) (A : List Nat), A.Nodup → (∀ q ∈ A, q < n) → A.length ≤ n := fun n A hn hl => by
  have h := List.Nodup.length_le_of_subset hn (l₂ := List.range n) (fun q hq => List.mem_range.2 (hl q hq))
  rwa [List.length_range] at h
/-- the search: what waits, none twice, owned; those ahead of I are through -/
structure Sq (g F : Nat → Int) (n : Nat) (nb : Nat → List Int) (A : List Nat) (I : Nat) : Prop where
  nd : A.Nodup
  lt : ∀ q ∈ A, q < n
  sd : ∀ q, q < n → g q ≠ 0 → q ∈ A
  ow : ∀ q ∈ A, F q ≠ 0
  th : ∀ i, i < I → ∀ p, A[i]? = some p → ∀ x ∈ nb p, F x.toNat = F p → x.toNat ∈ A
section
variable {g F : Nat → Int} {n : Nat} {nb : Nat → List Int} {A : List Nat} {I : Nat}
theorem Sq.len (h : Sq g F n nb A I) : A.length ≤ n := nd_len n A h.nd h.lt
theorem Sq.start (hF : ∀ q, g q ≠ 0 → F q = g q) : Sq g F n nb (sdA g n) 0 :=
  ⟨sdA_nd g n, fun q hq => ((sdA_mem g n q).1 hq).1, fun q h1 h2 => (sdA_mem g n q).2 ⟨h1, h2⟩, fun q hq => by have h := ((sdA_mem g n q).1 hq).2; rw [hF q h]; exact h, fun i hi => absurd hi (by omega)⟩
theorem Sq.add (h : Sq g F n nb A I) (hI : I ≤ A.length) {q : Nat} (hq : q ∉ A) (hqn : q < n) (hF : F q ≠ 0) : Sq g F n nb (A ++ [q]) I := by
  refine ⟨?_, fun x hx => ?_, fun x h1 h2 => List.mem_append_left _ (h.sd x h1 h2), fun x hx => ?_, fun i hi p hp x hx e => ?_⟩
  · rw [List.nodup_append]
    refine ⟨h.nd, by simp, fun x hx y hy => ?_⟩
    rw [List.mem_singleton] at hy
    subst hy
    exact fun e => hq (e ▸ hx)
  · rcases List.mem_append.1 hx with h1 | h1
    · exact h.lt x h1
    · rw [List.mem_singleton.1 h1]; exact hqn
  · rcases List.mem_append.1 hx with h1 | h1
    · exact h.ow x h1
    · rw [List.mem_singleton.1 h1]; exact hF
  · rw [List.getElem?_append_left (by omega)] at hp
    exact List.mem_append_left _ (h.th i hi p hp x hx e)
theorem Sq.next (h : Sq g F n nb A I) {p : Nat} (hp : A[I]? = some p) (hx : ∀ x ∈ nb p, F x.toNat = F p → x.toNat ∈ A) : Sq g F n nb A (I + 1) := by
  refine ⟨h.nd, h.lt, h.sd, h.ow, fun i hi p' hp' => ?_⟩
  rcases Nat.lt_or_ge i I with h1 | h1
  · exact h.th i h1 p' hp'
  · obtain rfl : i = I := by omega
    rw [hp] at hp'
    cases hp'
    exact hx
/-- in the end all that is reached waits -/
theorem Sq.done (h : Sq g F n nb A A.length) (hg : ∀ q, n ≤ q → g q = 0) {k : Nat} (hr : Rc g F nb k) : k ∈ A := by
  induction hr with
  | seed k hk => exact h.sd k (by rcases Nat.lt_or_ge k n with h1 | h1; (exact h1); (exact absurd (hg k h1) hk)) hk
  | step p x _ _ hx he ih =>
    obtain ⟨i, hi, e⟩ := List.mem_iff_getElem.1 ih
    exact h.th i hi p (by rw [List.getElem?_eq_getElem hi, e]) x hx he
end
/-- the place beside, or -1 -/
def nr (W H : Int) (p : Nat) : Nat → Int
  | 0 => if 0 < (p : Int) % W then p - 1 else -1
  | 1 => if (p : Int) % W < W - 1 then p + 1 else -1
  | 2 => if W ≤ (p : Int) then p - W else -1
  | _ => if (p : Int) / W < H - 1 then p + W else -1
theorem nr_in {W H : Int} {n p : Nat} (hn : (n : Int) = W * H) (hW : 1 ≤ W) (hp : p < n) (j : Nat) : nr W H p j = -1 ∨ (nr W H p j ∈ besL W H p ∧ 0 ≤ nr W H p j ∧ nr W H p j < n) := by
  have h := besL_in (H := H) hn hW hp
  have hm : ∀ x, x ∈ besL W H p → x ∈ besL W H p ∧ 0 ≤ x ∧ x < n := fun x hx => ⟨hx, h x hx⟩
  unfold nr
  split
  all_goals
    split
    · next hc =>
      refine .inr (hm _ ?_)
      unfold besL besA besB besC besD
      simp [hc]
    · exact .inl rfl
theorem nr_all {W H : Int} {p : Nat} {x : Int} (hx : x ∈ besL W H p) : ∃ j, j < 4 ∧ nr W H p j = x := by
  unfold besL besA besB besC besD at hx
  simp only [List.mem_append] at hx
  rcases hx with ((h | h) | h) | h
  · obtain ⟨h1, rfl⟩ := mem_if h; exact ⟨2, by omega, by simp [nr, h1]⟩
  · obtain ⟨h1, rfl⟩ := mem_if h; exact ⟨0, by omega, by simp [nr, h1]⟩
  · obtain ⟨h1, rfl⟩ := mem_if h; exact ⟨1, by omega, by simp [nr, h1]⟩
  · obtain ⟨h1, rfl⟩ := mem_if h; exact ⟨3, by omega, by simp [nr, h1]⟩
/-- where J of the places beside p are through -/
structure Sj (g F : Nat → Int) (n : Nat) (W H : Int) (A : List Nat) (I p J : Nat) : Prop where
  sq : Sq g F n (fun q => besL W H q) A I
  at_ : A[I]? = some p
  ok : ∀ j, j < J → 0 ≤ nr W H p j → F (nr W H p j).toNat = F p → (nr W H p j).toNat ∈ A
section
variable {g F : Nat → Int} {n : Nat} {W H : Int} {A : List Nat} {I p J : Nat}
theorem Sj.pass (h : Sj g F n W H A I p J) (hx : 0 ≤ nr W H p J → F (nr W H p J).toNat = F p → (nr W H p J).toNat ∈ A) : Sj g F n W H A I p (J + 1) :=
  ⟨h.sq, h.at_, fun j hj => by
    rcases Nat.lt_or_ge j J with h1 | h1
    · exact h.ok j h1
    · obtain rfl : j = J := by omega
      exact hx⟩
theorem Sj.add (h : Sj g F n W H A I p J) {q : Nat} (hqJ : nr W H p J = (q : Int)) (hq : q ∉ A) (hqn : q < n) (hF : F q = F p) : Sj g F n W H (A ++ [q]) I p (J + 1) := by
  have hI : I < A.length := by
    have := h.at_
    rcases Nat.lt_or_ge I A.length with h1 | h1
    · exact h1
    · rw [List.getElem?_eq_none h1] at this; cases this
  have hp := h.sq.ow p (List.mem_of_getElem? h.at_)
  refine ⟨h.sq.add (by omega) hq hqn (by rw [hF]; exact hp), by rw [List.getElem?_append_left hI]; exact h.at_, fun j hj h0 he => ?_⟩
  rcases Nat.lt_or_ge j J with h1 | h1
  · exact List.mem_append_left _ (h.ok j h1 h0 he)
  · obtain rfl : j = J := by omega
    rw [hqJ, Int.toNat_natCast]
    exact List.mem_append_right _ (List.mem_singleton.2 rfl)
theorem Sj.done (h : Sj g F n W H A I p 4) (hn : (n : Int) = W * H) (hW : 1 ≤ W) : Sq g F n (fun q => besL W H q) A (I + 1) := by
  refine h.sq.next h.at_ (fun x hx he => ?_)
  obtain ⟨j, hj, rfl⟩ := nr_all hx
  have hp := h.sq.lt p (List.mem_of_getElem? h.at_)
  exact h.ok j hj (besL_in hn hW hp _ hx).1 he
end
/-- in the end: with a seed all wait and are owned, without one none -/
theorem shed_end {W H : Int} {n : Nat} {f g : Nat → Int} {A : List Nat} (hn : (n : Int) = W * H) (hW : 1 ≤ W) (hH : 1 ≤ H) (hg : ∀ q, n ≤ q → g q = 0) (h : Sq g (shdV W H n f g) n (fun q => besL W H q) A A.length) {k : Nat} (hk : k < n) :
    decide (k ∈ A) = decide (sdA g n ≠ []) ∧ (shdV W H n f g k != 0) = decide (sdA g n ≠ []) := by
  obtain ⟨h1, h2, h3, h4⟩ := shd_all (f := f) (g := g) hn hW hH
  by_cases he : sdA g n = []
  · have hz : ∀ q, g q = 0 := fun q => by
      rcases Nat.lt_or_ge q n with hq | hq
      · by_cases e : g q = 0
        · exact e
        · have := (sdA_mem g n q).2 ⟨hq, e⟩
          rw [he] at this; simp at this
      · exact hg q hq
    have h5 := h4 hz
    refine ⟨?_, by simp [he, h5 k]⟩
    have : k ∉ A := fun hm => h.ow k hm (h5 k)
    simp [he, this]
  · obtain ⟨q, hq⟩ := List.exists_mem_of_ne_nil _ he
    obtain ⟨hq1, hq2⟩ := (sdA_mem g n q).1 hq
    have h5 := h3 q k hq1 hq2 hk
    have h6 := h.done hg (h2 k h5)
    exact ⟨by simp [he, h6], by simp [he, h5]⟩

end Go.Proofs.Ytekoioggamhlaaa

namespace Go.Proofs.Ytekoioggamhlaaa
open Go.RowKit

/-- which are through: a list of truth values -/
def DRow (b n : Nat) (D : List Nat) (w : World) : Prop := ∀ q, q < n → w.cell? ⟨b, q, none⟩ = some (.bool (decide (q ∈ D))) ∧ w.frozen? ⟨b, q, none⟩ = false
theorem DRow.heap {b n : Nat} {D : List Nat} {w w' : World} (h : DRow b n D w) (he : w'.heap[b]? = w.heap[b]?) : DRow b n D w' := fun q hq =>
  ⟨(World.cell?_of_block (w := w) (w' := w') (a := ⟨b, q, none⟩) he).trans (h q hq).1, (World.frozen?_of_block (w := w) (w' := w') (a := ⟨b, q, none⟩) he).trans (h q hq).2⟩
theorem DRow.put {b n : Nat} {D : List Nat} {w : World} (h : DRow b n D w) {k : Nat} : DRow b n (D ++ [k]) (w.setCell ⟨b, k, none⟩ (.bool true)) := fun q hq => by
  refine ⟨?_, by simpa using (h q hq).2⟩
  by_cases e : q = k
  · subst e
    rw [World.cell?_setCell_same _ _ _ (h q hq).1]
    simp
  · rw [World.cell?_setCell_other _ _ _ _ (by simp; try omega), (h q hq).1]
    simp [e]
theorem Row.heap {b n : Nat} {f : Nat → Int} {w w' : World} (h : Row b n f w) (he : w'.heap[b]? = w.heap[b]?) : Row b n f w' := fun q hq =>
  ⟨(World.cell?_of_block (w := w) (w' := w') (a := ⟨b, q, none⟩) he).trans (h q hq).1, (World.frozen?_of_block (w := w) (w' := w') (a := ⟨b, q, none⟩) he).trans (h q hq).2⟩
theorem made_bool (n : Nat) (w : World) (t : TypeId) : DRow w.heap.size n [] (w.alloc (.cells (madeCells #[.bool false] n) t)) := fun q hq => by
  refine ⟨?_, by simp [go_sem]⟩
  rw [World.cell?_alloc_new]
  rw [← Array.getElem?_toList, toList_madeCells_one]
  simp [hq]
/-- the list of those that wait, the list of those that are through, both since wC -/
structure SW (wC : World) (BD n : Nat) (v : Value) (D A : List Nat) (wr : World) : Prop where
  bl : Below wC.heap.size wC wr
  dn : DRow BD n D wr
  wt : wr.ownsRow wC.heap.size 2 1 v A.length (ints (csW A))
  ap : v.ownBlock ≠ some BD
  lt : wC.heap.size ≤ BD ∧ BD < wr.heap.size
section
variable {wC : World} {BD n : Nat} {v v' : Value} {D A : List Nat} {wr w' : World}
theorem SW.next (h : SW wC BD n v D A wr) (hb : Below wr.heap.size wr w') : SW wC BD n v D A w' :=
  ⟨h.bl.trans (hb.mono h.bl.size), h.dn.heap (hb.block _ h.lt.2), ownsRow_below' h.wt hb, h.ap, ⟨h.lt.1, Nat.lt_of_lt_of_le h.lt.2 hb.size⟩⟩
theorem SW.mark (h : SW wC BD n v D A wr) (q : Nat) : SW wC BD n v (D ++ [q]) A (wr.setCell ⟨BD, q, none⟩ (.bool true)) :=
  ⟨h.bl.setCell (p := ⟨BD, q, none⟩) h.lt.1 _, h.dn.put, owns_keep h.wt (fun b hb => heap_setCell_other wr ⟨BD, q, none⟩ b _ (fun e => h.ap (by rw [hb, e]))), h.ap, ⟨h.lt.1, by simpa using h.lt.2⟩⟩
theorem SW.grow (h : SW wC BD n v D A wr) {q : Nat} (ho : w'.ownsRow wC.heap.size 2 1 v' (A.length + 1) (ints (csW A ++ [(q : Int)]))) (hb : Below wC.heap.size wr w') (hk : KpV v wr w') (hm : Moved v v' wr) : SW wC BD n v' D (A ++ [q]) w' := by
  refine ⟨h.bl.trans hb, h.dn.heap (hk BD h.lt.2 h.ap), ?_, fun e => ?_, ⟨h.lt.1, Nat.lt_of_lt_of_le h.lt.2 hb.size⟩⟩
  · rw [csW_app, List.length_append]; exact ho
  · rcases hm BD e with h1 | h1
    · exact h.ap h1
    · have := h.lt.2; omega
/-- and the list of the four places beside -/
structure SX (wC : World) (BD n : Nat) (v : Value) (D A : List Nat) (NB : Nat) (f : Nat → Int) (wr : World) : Prop where
  sw : SW wC BD n v D A wr
  nr : Row NB 4 f wr
  nb : wC.heap.size ≤ NB ∧ NB < wr.heap.size ∧ NB ≠ BD
  ap : v.ownBlock ≠ some NB
variable {NB : Nat} {f f' : Nat → Int}
theorem SX.next (h : SX wC BD n v D A NB f wr) (hb : Below wr.heap.size wr w') : SX wC BD n v D A NB f w' :=
  ⟨h.sw.next hb, h.nr.heap (hb.block _ h.nb.2.1), ⟨h.nb.1, Nat.lt_of_lt_of_le h.nb.2.1 hb.size, h.nb.2.2⟩, h.ap⟩
theorem SX.mark (h : SX wC BD n v D A NB f wr) (q : Nat) : SX wC BD n v (D ++ [q]) A NB f (wr.setCell ⟨BD, q, none⟩ (.bool true)) :=
  ⟨h.sw.mark q, h.nr.heap (heap_setCell_other wr ⟨BD, q, none⟩ NB _ h.nb.2.2), ⟨h.nb.1, by simpa using h.nb.2.1, h.nb.2.2⟩, h.ap⟩
theorem SX.grow (h : SX wC BD n v D A NB f wr) {q : Nat} (ho : w'.ownsRow wC.heap.size 2 1 v' (A.length + 1) (ints (csW A ++ [(q : Int)]))) (hb : Below wC.heap.size wr w') (hk : KpV v wr w') (hm : Moved v v' wr) : SX wC BD n v' D (A ++ [q]) NB f w' := by
  refine ⟨h.sw.grow ho hb hk hm, h.nr.heap (hk NB h.nb.2.1 h.ap), ⟨h.nb.1, Nat.lt_of_lt_of_le h.nb.2.1 hb.size, h.nb.2.2⟩, fun e => ?_⟩
  rcases hm NB e with h1 | h1
  · exact h.ap h1
  · have := h.nb.2.1; omega
theorem SX.put (h : SX wC BD n v D A NB f wr) {j : Nat} {z : Int} (he : ∀ q, q < 4 → (if q = j then z else f q) = f' q) : SX wC BD n v D A NB f' (wr.setCell ⟨NB, j, none⟩ (.int .i64 z)) := by
  have hn : ∀ b, b ≠ NB → (wr.setCell ⟨NB, j, none⟩ (.int .i64 z)).heap[b]? = wr.heap[b]? := fun b hb => heap_setCell_other wr ⟨NB, j, none⟩ b _ hb
  refine ⟨⟨h.sw.bl.setCell (p := ⟨NB, j, none⟩) h.nb.1 _, h.sw.dn.heap (hn BD (Ne.symm h.nb.2.2)), owns_keep h.sw.wt (fun b hb => hn b (fun e => h.ap (by rw [hb, e]))), h.sw.ap, ⟨h.sw.lt.1, by simpa using h.sw.lt.2⟩⟩, (h.nr.put j z).congr he, ⟨h.nb.1, by simpa using h.nb.2.1, h.nb.2.2⟩, h.ap⟩
theorem SX.congr (h : SX wC BD n v D A NB f wr) (he : ∀ q, q < 4 → f q = f' q) : SX wC BD n v D A NB f' wr := ⟨h.sw, h.nr.congr he, h.nb, h.ap⟩
end
theorem nr0_eq (W H : Int) (p : Nat) : nr W H p 0 = if 0 < (p : Int) % W then (p : Int) - 1 else -1 := rfl
theorem nr1_eq (W H : Int) (p : Nat) : nr W H p 1 = if (p : Int) % W < W - 1 then (p : Int) + 1 else -1 := rfl
theorem nr2_eq (W H : Int) (p : Nat) : nr W H p 2 = if W ≤ (p : Int) then (p : Int) - W else -1 := rfl
theorem nr3_eq (W H : Int) (p : Nat) : nr W H p 3 = if (p : Int) / W < H - 1 then (p : Int) + W else -1 := rfl
/-- the first i of the four are told -/
def nrs (W H : Int) (p i : Nat) : Nat → Int := fun q => if q < i then nr W H p q else -1
theorem nrs_put {W H : Int} {p i : Nat} {z : Int} (h : nr W H p i = z) (q : Nat) : (if q = i then z else nrs W H p i q) = nrs W H p (i + 1) q := by
  unfold nrs
  by_cases e : q = i
  · subst e
    rw [if_pos rfl, if_pos (by omega), h]
  · rw [if_neg e]
    by_cases e2 : q < i
    · rw [if_pos e2, if_pos (by omega)]
    · rw [if_neg e2, if_neg (by omega)]
theorem nrs_skip {W H : Int} {p i : Nat} (h : nr W H p i = -1) (q : Nat) : nrs W H p i q = nrs W H p (i + 1) q := by
  have := nrs_put h q
  rw [← this]
  by_cases e : q = i
  · rw [if_pos e]; unfold nrs; rw [if_neg (by omega)]
  · rw [if_neg e]
theorem nrs_all {W H : Int} {p : Nat} (q : Nat) (hq : q < 4) : nrs W H p 4 q = nr W H p q := by unfold nrs; rw [if_pos hq]

end Go.Proofs.Ytekoioggamhlaaa

namespace Go.Proofs.Ytekoioggamhlaaa
open Go.RowKit

theorem cell_upW {w w' : World} {x : Addr} {v : Value} (hb : Below w.heap.size w w') (h : w.cell? x = some v) : w'.cell? x = some v := (hb.cell (World.block_lt_of_cell? w x h)).trans h

set_option maxRecDepth 100000 in
theorem make_bool (n : Nat) (h : n ≤ 1048576) (w : World) :
    (Instr.makeSlice 31 (.int .i64 n) (.int .i64 n)).run Try.prog w = .ok (.slice (some ⟨w.heap.size, 0, none⟩) n n) (w.alloc (.cells (madeCells #[.bool false] n) 4)) := by
  have := run_make (P := Try.prog) w 31 4 _ (.bool false) Try.underlying31 rfl rfl .i64 .i64 n n (by omega) (by omega) (by show (1 : Int) * _ ≤ _; omega) (by omega)
  rw [this]
  show Result.ok (Value.slice _ (n : Int).toNat (n : Int).toNat) (w.alloc (.cells (madeCells (Value.cells (.bool false)) ((n : Int).toNat * 1)) 4)) = _
  rw [Int.toNat_natCast, Nat.mul_one]
  rfl

set_option maxRecDepth 100000 in
set_option maxHeartbeats 8000000 in
theorem fnShed_walk (a : Option Addr) (len cap : Nat) (w : World) (h : Bytes a len w) :
    Calls Try.prog 3 #[.slice a len cap] w fun e w' => e = .returned (.bool true) ∧ Below w.heap.size w w' := by
  have cB := big_any a len cap w
  have cD := drawWatershed_any a len cap w h
  clear h
  by_cases hbig : 1048576 < len
  · rw [decide_eq_true hbig] at cB
    clear cD
    go_enter Try.func3, Try.ntmps3
    go_wp2_with fail
    refine cB.mono ?_
    rintro e w1 ⟨rfl, rfl⟩
    clear cB
    go_wp2_with fail
    go_ret
    exact ⟨rfl, Below.refl _ _⟩
  rw [decide_eq_false hbig] at cB
  clear hbig
  go_enter Try.func3, Try.ntmps3
  go_wp2_with fail
  refine cB.mono ?_
  rintro e w0 ⟨rfl, rfl⟩
  clear cB
  go_wp2_with fail
  refine cD.mono ?_
  rintro e w1 ⟨W, H, x, n, c, f, W', H', x', n', c', g0, rfl, hn, hn', hp, hq0, hbl⟩
  obtain ⟨g, hg⟩ : ∃ g : Nat → Int, g = fun q => if q < n' then g0 q else 0 := ⟨_, rfl⟩
  have hgz : ∀ q, n' ≤ q → g q = 0 := fun q hq => by rw [hg]; simp; omega
  have hq : Px x' n' g w1 := by
    rcases hq0 with h | ⟨b, off, ha, h⟩
    · exact .inl h
    · exact .inr ⟨b, off, ha, fun k hk => by rw [h k hk, hg]; simp [hk]⟩
  have HP := hide hp
  have HQ := hide hq
  have HGZ := hide hgz
  have HBL := hide hbl
  clear cD hp hq hq0 hgz hg hbl
  go_upto_region 4 with fail
  have HS2 : Hid (St w1 [(w1.heap.size + 1, [.int .i64 W', .int .i64 H', .slice x' n' c']), (w1.heap.size, [.int .i64 W, .int .i64 H, .slice x n c])] [] ((w1.alloc (.cells #[.int .i64 W, .int .i64 H, .slice x n c] 26)).alloc (.cells #[.int .i64 W', .int .i64 H', .slice x' n' c'] 26))) := ((St.start w1).box [.int .i64 W, .int .i64 H, .slice x n c] 26).box' [.int .i64 W', .int .i64 H', .slice x' n' c'] 26 (b := w1.heap.size + 1) (by simp)
  generalize (w1.alloc (.cells #[.int .i64 W, .int .i64 H, .slice x n c] 26)).alloc (.cells #[.int .i64 W', .int .i64 H', .slice x' n' c'] 26) = w2 at *
  generalize hY : w1.heap.size + 1 = Y at *
  generalize hX : w1.heap.size = X at *
  clear hX hY
  have cS := specWatershed_any W H x n c f (by omega) W' H' x' n' c' g (by omega) w2 (HP.out.below HS2.out.below) (HQ.out.below HS2.out.below)
  obtain ⟨i0, i1, i2⟩ := HS2.out.im3 1 rfl
  obtain ⟨j0, j1, j2⟩ := HS2.out.im3 0 rfl
  cases hsh : shdB W H n f W' H' n' g with
  | false =>
    rw [hsh] at cS
    simp only [pickI_f, pickN_f] at cS
    go_wp2_with fail
    refine cS.mono ?_
    rintro e w3 ⟨a3, c3, b3, rfl, -, -, hb3⟩
    have HB := hide (HBL.out.trans ((HS2.out.next hb3).below.mono HBL.out.size))
    have ff : (Instr.field 26 (im 0 0 a3 0 c3) 0).run Try.prog w3 = .ok (.int .i64 0) w3 := rfl
    clear cS hb3 HS2 i0 i1 i2 j0 j1 j2 hsh
    go_wp2_with fail
    go_ret
    exact ⟨rfl, HB.out⟩
  | true =>
    rw [hsh] at cS
    simp only [pickI_t, pickN_t] at cS
    have hsh' := hsh
    unfold shdB at hsh'
    simp only [Bool.and_eq_true, decide_eq_true_eq] at hsh'
    obtain ⟨hg1, hg2, rfl, rfl⟩ := hsh'
    obtain ⟨-, hWW, hHH, hnW, hn1, -, -⟩ := gryB_ok hg1
    obtain ⟨-, -, -, hnW', -, -, -⟩ := gryB_ok hg2
    obtain rfl : n = n' := by omega
    have hW0 : (W == 0) = false := by simp; omega
    have cI := fun A C A' C' w h h' => implWatershed_any W H A n C f (by omega) W H A' n C' g (by omega) w h h'
    rw [hsh] at cI
    simp only [pickI_t, pickN_t] at cI
    obtain ⟨F, hF⟩ : ∃ F, F = shdV W H n f g := ⟨_, rfl⟩
    have HALL : Hid ((∀ q, g q ≠ 0 → F q = g q) ∧ ∀ A, Sq g F n (fun q => besL W H q) A A.length → ∀ k, k < n → decide (k ∈ A) = decide (sdA g n ≠ []) ∧ (F k != 0) = decide (sdA g n ≠ [])) := by
      rw [hF]
      exact ⟨(shd_all (f := f) (g := g) hnW hWW.1 hHH.1).1, fun A h k hk => shed_end hnW hWW.1 hHH.1 HGZ.out h hk⟩
    rw [← hF] at cS cI
    clear hsh hg1 hg2 hnW' hF HGZ
    have HN := hide (And.intro hnW (And.intro hWW (And.intro hHH (And.intro hn hn1))))
    go_wp2_with fail
    refine cS.mono ?_
    rintro e w3' ⟨a3, c3, b3, rfl, -, -, hb3⟩
    have HS3' := hide (HS2.out.next hb3)
    obtain ⟨w3, hw3⟩ : ∃ w3, w3 = w3' := ⟨_, rfl⟩
    subst hw3
    have HS3 := HS3'
    have ff : (Instr.field 26 (im W H a3 n c3) 0).run Try.prog w3 = .ok (.int .i64 W) w3 := rfl
    clear cS hb3 HS2 HS3' i0 i1 i2 j0 j1 j2
    have cC := fun w' h => copyImage_any W H x n c f (by omega) hn1 w' h
    have cC' := fun w' h => copyImage_any W H x' n c' g (by omega) hn1 w' h
    clear hnW hWW hHH hn' hn1
    go_upto_region 6 with fail
    go_cut [5] (fun s wc => ∃ (Q : Nat) (A : Option Addr) (C : Nat), s = .pointer (some ⟨Q, 0, none⟩) ∧ St w1 [(Y, [.int .i64 W, .int .i64 H, .slice x' n c']), (X, [.int .i64 W, .int .i64 H, .slice x n c])] [] wc ∧ Bx Q [.int .i64 W, .int .i64 H, .slice A n C] wc ∧ Px A n F wc)
    case first =>
      obtain ⟨G, hG⟩ : ∃ G : Nat → Value → Prop, G = (fun j v => match j with | 0 => v = im W H x n c | 2 => v = im W H x' n c' | _ => True) := ⟨_, rfl⟩
      have G0 : Hid (∀ v, G 0 v ↔ v = im W H x n c) := fun v => by rw [hG]; exact Iff.rfl
      have G1 : Hid (∀ v, G 1 v) := fun v => by rw [hG]; trivial
      have G2 : Hid (∀ v, G 2 v ↔ v = im W H x' n c') := fun v => by rw [hG]; exact Iff.rfl
      have G3 : Hid (∀ v, G 3 v) := fun v => by rw [hG]; trivial
      have G4 : Hid (∀ v, G 4 v) := fun v => by rw [hG]; trivial
      have G5 : Hid (∀ v, G 5 v) := fun v => by rw [hG]; trivial
      have G6 : Hid (∀ v, G 6 v) := fun v => by rw [hG]; trivial
      clear hG
      obtain ⟨pv, hpv⟩ : ∃ pv : Nat → Option OwnP, pv = (fun j => match j with | 1 => some (imgP W H n f) | 3 => some (imgP W H n g) | 4 => some (imgP W H n F) | _ => none) := ⟨_, rfl⟩
      have O0 : Hid (pv 0 = none) := by rw [hpv]; exact rfl
      have O1 : Hid (pv 1 = some (imgP W H n f)) := by rw [hpv]; exact rfl
      have O2 : Hid (pv 2 = none) := by rw [hpv]; exact rfl
      have O3 : Hid (pv 3 = some (imgP W H n g)) := by rw [hpv]; exact rfl
      have O4 : Hid (pv 4 = some (imgP W H n F)) := by rw [hpv]; exact rfl
      have O5 : Hid (pv 5 = none) := by rw [hpv]; exact rfl
      have O6 : Hid (pv 6 = none) := by rw [hpv]; exact rfl
      have HST : Hid (∀ j p, pv j = some p → Stab p) := by
        intro j p hp
        rw [hpv] at hp
        dsimp only at hp
        split at hp <;> cases hp
        · exact imgP_st _ _ _ _
        · exact imgP_st _ _ _ _
        · exact imgP_st _ _ _ _
      clear hpv
      obtain ⟨PX, hPX⟩ : ∃ P : Nat → World → Prop, P = (ImB W H n F) := ⟨_, rfl⟩
      have HPX : Hid (∀ (Q : Nat) (wx wy : World), Below wx.heap.size wx wy → PX Q wx → PX Q wy) := by
        intro Q wx wy hb hp
        rw [hPX] at hp ⊢
        exact hp.below hb
      have HPY : Hid (PX = ImB W H n F) := hPX
      clear hPX
      refine region_opsV (bR 5 6 (.int .i64 0) [.int .i64 0, .slice none 0 0] w3) (kF 5 6 w3 G pv PX) (by kernel_rfl) (by kernel_rfl) (by kernel_rfl) (by kernel_rfl) ?_ ?_ ?_
      · refine ⟨(Below.refl _ _).drew, fun B hB hBB => ?_⟩
        have h := hB.symm.trans (show _ = undef by kernel_rfl)
        simp [undef] at h
      · refine ⟨?_, ?_, ?_, ?_, ?_, ?_, ?_, trivial⟩
        ·
          intro u w21 au hsl hel hu hF hp' K hK
          have tq : au.tmps[3]?.getD undef = .pointer (some ⟨X, 0, none⟩) := (hel.out 3 (by kernel_rfl)).trans (by kernel_rfl)
          obtain ⟨xa, xb, xc⟩ := (HS3.out.next hF.1).im3 1 rfl
          refine step_plain rfl ?_
          go_simp
          exact hK.out (im W H x n c) _ (bR_up hF (Below.refl _ _) 0 (by omega) (by omega) _) (kF_val 0 (by omega) (by omega) O0.out ((G0.out _).2 rfl)) (fun j hj hf h => kF_up HST.out (fun M hM => HPX.out M _ _ (Below.refl _ _) hM) (Below.refl _ _) 0 (by omega) (by omega) _ j hj h)
        ·
          intro u w21 au hsl hel hu hF hp' K hK
          have h0 : u 0 = im W H x n c := (G0.out _).1 (PreF.get hp' 0 (by kernel_rfl)).1
          have tq : au.tmps[27]?.getD undef = u 0 := hsl.out 0 27 (by kernel_rfl)
          rw [h0] at tq
          have h7 : u 6 = undef := (hu.out 6 (by decide) (.inr (by kernel_rfl))).trans (by kernel_rfl)
          have c := cC w21 (HP.out.below (HS3.out.next hF.1).below)
          refine step_plain rfl ?_
          go_simp
          refine c.mono ?_
          rintro e w22 ⟨bb, cc, rfl, r2, r3, hb9⟩
          exact hK.out (im W H (some ⟨bb, 0, none⟩) n cc) _ (bR_up hF hb9 1 (by omega) (by omega) _) (kF_own 1 (by omega) (by omega) O1.out (G1.out _) (gB.newI hF h7 W H cc (.inr ⟨rfl, r2⟩) (.inr r3))) (fun j hj hf h => kF_up HST.out (fun M hM => HPX.out M _ _ hb9 hM) hb9 1 (by omega) (by omega) _ j hj h)
        ·
          intro u w21 au hsl hel hu hF hp' K hK
          have tq : au.tmps[4]?.getD undef = .pointer (some ⟨Y, 0, none⟩) := (hel.out 4 (by kernel_rfl)).trans (by kernel_rfl)
          obtain ⟨xa, xb, xc⟩ := (HS3.out.next hF.1).im3 0 rfl
          refine step_plain rfl ?_
          go_simp
          exact hK.out (im W H x' n c') _ (bR_up hF (Below.refl _ _) 2 (by omega) (by omega) _) (kF_val 2 (by omega) (by omega) O2.out ((G2.out _).2 rfl)) (fun j hj hf h => kF_up HST.out (fun M hM => HPX.out M _ _ (Below.refl _ _) hM) (Below.refl _ _) 2 (by omega) (by omega) _ j hj h)
        ·
          intro u w21 au hsl hel hu hF hp' K hK
          have h0 : u 2 = im W H x' n c' := (G2.out _).1 (PreF.get hp' 2 (by kernel_rfl)).1
          have tq : au.tmps[29]?.getD undef = u 2 := hsl.out 2 29 (by kernel_rfl)
          rw [h0] at tq
          have h7 : u 6 = undef := (hu.out 6 (by decide) (.inr (by kernel_rfl))).trans (by kernel_rfl)
          have c := cC' w21 (HQ.out.below (HS3.out.next hF.1).below)
          refine step_plain rfl ?_
          go_simp
          refine c.mono ?_
          rintro e w22 ⟨bb, cc, rfl, r2, r3, hb9⟩
          exact hK.out (im W H (some ⟨bb, 0, none⟩) n cc) _ (bR_up hF hb9 3 (by omega) (by omega) _) (kF_own 3 (by omega) (by omega) O3.out (G3.out _) (gB.newI hF h7 W H cc (.inr ⟨rfl, r2⟩) (.inr r3))) (fun j hj hf h => kF_up HST.out (fun M hM => HPX.out M _ _ hb9 hM) hb9 3 (by omega) (by omega) _ j hj h)
        ·
          intro u w21 au hsl hel hu hF hp' K hK
          have h7 : u 6 = undef := (hu.out 6 (by decide) (.inr (by kernel_rfl))).trans (by kernel_rfl)
          obtain ⟨bs1, -, ⟨A1, C1, B1, e1, o1, -⟩, -⟩ := ((PreF.get hp' 1 (by kernel_rfl)).2.1 _ O1.out).resolve_left (fun hx => hx h7)
          have t31 : au.tmps[28]?.getD undef = u 1 := hsl.out 1 28 (by kernel_rfl)
          rw [e1] at t31
          obtain ⟨bs3, -, ⟨A3, C3, B3, e3, o3, -⟩, -⟩ := ((PreF.get hp' 3 (by kernel_rfl)).2.1 _ O3.out).resolve_left (fun hx => hx h7)
          have t33 : au.tmps[30]?.getD undef = u 3 := hsl.out 3 30 (by kernel_rfl)
          rw [e3] at t33
          have c := cI A1 C1 A3 C3 w21 (Ow.px o1) (Ow.px o3)
          refine step_plain rfl ?_
          go_simp
          refine c.mono ?_
          rintro e w22 ⟨q0, q1, q2, rfl, q3, q4, hb9⟩
          exact hK.out (im W H q0 n q1) _ (bR_up hF hb9 4 (by omega) (by omega) _) (kF_own 4 (by omega) (by omega) O4.out (G4.out _) (gB.newI hF h7 W H q1 q3 q4)) (fun j hj hf h => kF_up HST.out (fun M hM => HPX.out M _ _ hb9 hM) hb9 4 (by omega) (by omega) _ j hj h)
        ·
          intro u w21 au hsl hel hu hF hp' K hK
          refine step_plain rfl ?_
          go_simp
          exact hK.out (.pointer (some ⟨w21.heap.size, 0, none⟩)) _ (bR_al hF (Bx.new [.int .i64 0, .int .i64 0, .slice none 0 0] 26 w21)) (kF_ptr (by omega) (G5.out) O5.out hF.1.size) (fun j hj hf h => kF_al HST.out (by omega) _ j hj (fun e => by subst e; exact absurd (Eq.trans (Eq.symm (by kernel_rfl)) hf) Bool.false_ne_true) h)
        ·
          intro u w21 au hsl hel hu hF hp' K hK
          have h7 : u 6 = undef := (hu.out 6 (by decide) (.inl rfl)).trans (by kernel_rfl)
          obtain ⟨bs, hbs, ⟨q0, q1, q2, e7, o7, m7⟩, hap⟩ := ((PreF.get hp' 4 (by kernel_rfl)).2.1 _ O4.out).resolve_left (fun hx => hx h7)
          have t37 : au.tmps[31]?.getD undef = u 4 := hsl.out 4 31 (by kernel_rfl)
          rw [e7] at t37
          obtain ⟨Q, hQ, hQB⟩ := (PreF.get hp' 5 (by kernel_rfl)).2.2.1 rfl
          have t12 : au.tmps[5]?.getD undef = .pointer (some ⟨Q, 0, none⟩) := (hsl.out 5 5 (by kernel_rfl)).trans hQ
          have hx := (hF.2 Q hQ hQB).resolve_left (fun hx => hx h7)
          obtain ⟨y0, z0⟩ := hx 0 _ rfl
          obtain ⟨y1, z1⟩ := hx 1 _ rfl
          obtain ⟨y2, z2⟩ := hx 2 _ rfl
          refine step_plain rfl ?_
          go_simp
          exact hK.out (.bool true) _ (bR_st (below_set3g hF.1 hQB _ _ _) (by simp [undef])) (kF_done (by omega) (G6.out) O6.out hQ hQB (by rw [HPY.out]; exact ImB.stored (A := 5) (u := u) o7 m7 hap hQ hx)) (fun j hj hf h => kF_st (by omega) (by simp [undef]) j hj h)
      · intro u w30 hF hall
        obtain ⟨Q, hQ, hQB, hP⟩ := (hall 6 (by decide)).2.2.2 rfl
        rw [HPY.out] at hP
        obtain ⟨A, C, hx, ho⟩ := hP
        have hst := HS3.out.next hF.1
        have HSTT : Hid (∃ (Q : Nat) (A : Option Addr) (C : Nat), Value.pointer (some ⟨Q, 0, none⟩) = .pointer (some ⟨Q, 0, none⟩) ∧ St w1 [(Y, [.int .i64 W, .int .i64 H, .slice x' n c']), (X, [.int .i64 W, .int .i64 H, .slice x n c])] [] w30 ∧ Bx Q [.int .i64 W, .int .i64 H, .slice A n C] w30 ∧ Px A n F w30) := ⟨Q, A, C, rfl, hst, hx, ho⟩
        have HSU : Hid (Bx Q [.int .i64 W, .int .i64 H, .slice A n C] w30 ∧ Px A n F w30 ∧ St w1 [(Y, [.int .i64 W, .int .i64 H, .slice x' n c']), (X, [.int .i64 W, .int .i64 H, .slice x n c])] [] w30) := ⟨hx, ho, hst⟩
        clear hF hall hx ho hst HSTT
        simp only [rgPut, Act.put, hQ]
        clear hQ hQB
        go_simp
        go_wp2_with fail
        go_meet
        exact ⟨Q, A, C, rfl, HSU.out.2.2, HSU.out.1, HSU.out.2.1⟩
    case rest =>
    obtain ⟨Q, A5, C5, rfl, hst, hbx, hpo⟩ := hcut
    clear HS3 cI cC cC' hW0
    obtain ⟨wC, hwC⟩ : ∃ wC, wC = wc := ⟨_, rfl⟩
    rw [← hwC] at hst hbx hpo
    rw [← hwC]
    clear hwC
    have hn1 := HN.out.2.2.2.2
    obtain ⟨b5, o5, rfl, -⟩ := hpo.at hn1
    have hps := HQ.out.below hst.below
    obtain ⟨b3, o3, rfl, -⟩ := hps.at hn1
    have HXc : Hid (∀ w', Below wC.heap.size wC w' → w'.cell? ⟨X, 0, none⟩ = some (.int .i64 W) ∧ w'.cell? ⟨X, 1, none⟩ = some (.int .i64 H) ∧ w'.cell? ⟨X, 2, none⟩ = some (.slice x n c)) := fun w' hb => (hst.next hb).im3 1 rfl
    have HYc : Hid (∀ w', Below wC.heap.size wC w' → w'.cell? ⟨Y, 2, none⟩ = some (.slice (some ⟨b3, o3, none⟩) n c')) := fun w' hb => ((hst.next hb).im3 0 rfl).2.2
    have HQc : Hid (∀ w', Below wC.heap.size wC w' → w'.cell? ⟨Q, 0, none⟩ = some (.int .i64 W) ∧ w'.cell? ⟨Q, 1, none⟩ = some (.int .i64 H) ∧ w'.cell? ⟨Q, 2, none⟩ = some (.slice (some ⟨b5, o5, none⟩) n C5)) := fun w' hb => by
      have h := hbx.below hb hbx.lt
      exact ⟨(h 0 _ rfl).1, (h 1 _ rfl).1, (h 2 _ rfl).1⟩
    have HFc : Hid (∀ w', Below wC.heap.size wC w' → ∀ k, k < n → w'.cell? ⟨b5, o5 + k, none⟩ = some (.int .i64 (F k))) := fun w' hb k hk => by
      obtain ⟨b9, o9, e, h⟩ := (hpo.below hb).at hk
      cases e
      exact h
    have HGc : Hid (∀ w', Below wC.heap.size wC w' → ∀ k, k < n → w'.cell? ⟨b3, o3 + k, none⟩ = some (.int .i64 (g k))) := fun w' hb k hk => by
      obtain ⟨b9, o9, e, h⟩ := (hps.below hb).at hk
      cases e
      exact h
    have HBC : Hid (Below w0.heap.size w0 wC) := HBL.out.trans (hst.below.mono HBL.out.size)
    clear hst hbx hpo hps HP HQ hn1 HBL
    obtain ⟨i0, i1, i2⟩ := HXc.out _ (Below.refl _ _)
    obtain ⟨j0, j1, j2⟩ := HQc.out _ (Below.refl _ _)
    have qW : (W != W) = false := by simp
    have qH : (H != H) = false := by simp
    have qm : (((n : Nat) : Int) != (n : Int)) = false := by simp
    have hn65 := HN.out.2.2.2.1
    have hs7 : (wC.alloc (.cells #[] 2)).heap.size = wC.heap.size + 1 := by simp
    have HW0 : Hid (SW wC (wC.heap.size + 1) n (.slice (some ⟨wC.heap.size, 0, none⟩) 0 0) (sdA g 0) (sdA g 0) ((wC.alloc (.cells #[] 2)).alloc (.cells (madeCells #[.bool false] n) 4))) := by
      have hm := made_bool n (wC.alloc (.cells #[] 2)) 4
      rw [hs7] at hm
      exact ⟨(bnew wC (.cells #[] 2)).alloc (by rw [hs7]; omega) _, hm, ownsRow_below' (World.ownsRow_made wC #[] 0 (Nat.le_refl _) (Nat.zero_le _) rfl) (bnew _ _), by simp [Value.ownBlock], by omega, by simp⟩
    have hmk := fun w' => make_bool n (by omega) w'
    have hn' : ¬ (n : Int) < 0 := by omega
    have i2' := (HXc.out (wC.alloc (.cells #[] 2)) (bnew _ _)).2.2
    go_upto_region 12 with fail
    generalize (wC.alloc (.cells #[] 2)).alloc (.cells (madeCells #[.bool false] n) 4) = w7 at *
    generalize hBD : wC.heap.size + 1 = BD at *
    clear hBD hs7 hmk i2' i0 i1 i2 j0 j1 j2 qW qH qm
    generalize (Value.slice (some ⟨wC.heap.size, 0, none⟩) 0 0) = v0 at *
    go_wp2_with fail
    go_loopw [6, 7, 9] (fun sm v i wr => ∃ k : Nat, k ≤ n ∧ i = .int .i64 k ∧ sm = .bool (decide (sdA g k ≠ [])) ∧ SW wC BD n v (sdA g k) (sdA g k) wr) (fun _ _ i _ => n - (intOf i).toNat)
    case atStart => exact ⟨0, by omega, rfl, by simp [sdA], HW0.out⟩
    case round =>
      obtain ⟨k, hk, rfl, rfl, hw⟩ := hrel
      clear HW0
      have HW := hide hw
      clear hw
      have j2 := HYc.out _ HW.out.bl
      by_cases hlt : k < n
      · have hlt' : (k : Int) < (n : Int) := by omega
        have z0 := HGc.out _ HW.out.bl k hlt
        have q2 := (HQc.out _ HW.out.bl).2.2
        have y0 := HFc.out _ HW.out.bl k hlt
        by_cases hg0 : g k = 0
        · have hsk : sdA g (k + 1) = sdA g k := by show (if g k = 0 then _ else _) = _; rw [if_pos hg0]
          have HSK := hide hsk
          have hz : (g k != 0) = false := by simp [hg0]
          rw [hg0] at z0
          clear hsk hg0 q2 y0
          go_wp2_with fail
          exact ⟨⟨k + 1, by omega, rfl, by rw [HSK.out], by rw [HSK.out]; exact HW.out⟩, by simp [intOf]; omega⟩
        · have hsk : sdA g (k + 1) = sdA g k ++ [k] := by show (if g k = 0 then _ else _) = _; rw [if_neg hg0]
          have HSK := hide hsk
          have hFk := HALL.out.1 k hg0
          rw [hFk] at y0
          have hz : (g k != 0) = true := by simp [hg0]
          have hAl := sdA_len g k
          have HE1 : Hid (Value.bool true = .bool (decide (sdA g k ++ [k] ≠ []))) := by show _ = _; simp
          clear hsk hFk
          generalize hA : sdA g k = A at *
          clear hA
          have HG0 := hide hg0
          clear hg0
          generalize g k = y at *
          have qyy : (y != y) = false := by simp
          go_upto_region 17 with fail
          obtain ⟨wr1, hwr⟩ : ∃ wr1, wr1 = wr := ⟨_, rfl⟩
          subst hwr
          have SK : Nonempty (Up wr1) := up_ne wr1
          have r1 := fun p : Up wr1 => p.cell q2
          have r2 := fun p : Up wr1 => p.cell y0
          have r3 := fun p : Up wr1 => p.cell j2
          have r4 := fun p : Up wr1 => p.cell z0
          refine region_up (by kernel_rfl) (by kernel_rfl) ?_
          repeat (go_big_quiet_step (exact rfl))
          refine wpQuiet_nil ?_
          intro _ hw2
          obtain ⟨pq, hw3⟩ := hw2
          subst hw3
          have HW1 := hide (HW.out.next pq.below)
          clear r1 r2 r3 r4 SK z0 q2 y0 j2 HW
          generalize pq.w = w8 at *
          obtain ⟨d0, df⟩ := HW1.out.dn k hlt
          have HW2 := hide (HW1.out.mark k)
          go_upto_region 20 with fail
          clear d0 df HW1
          generalize w8.setCell ⟨BD, k, none⟩ (.bool true) = w9 at *
          have HLn : Hid (A.length ≤ 1048576) := by show _ ≤ _; omega
          go_wp2_with (refine growN _ rfl _ _ rfl wC.heap.size _ A.length (csW A) rfl w9 HW2.out.wt (Below.refl _ _) HW2.out.bl.size (k : Int) rfl HLn.out ?_)
          intro v' w' ho' hb' hs' hk' hm'
          have HW3 := hide (HW2.out.grow ho' hb' hk' hm')
          clear ho' hb' hs' hk' hm' HW2
          go_wp2_with fail
          exact ⟨⟨k + 1, by omega, rfl, by rw [HSK.out]; exact HE1.out, by rw [HSK.out]; exact HW3.out⟩, by simp [intOf]; omega⟩
      · obtain rfl : n = k := by omega
        have HQ0 : Hid (Sq g F n (fun q => besL W H q) (sdA g n) 0) := Sq.start HALL.out.1
        have HALL2 : Hid (∀ A, Sq g F n (fun q => besL W H q) A A.length → ∀ q, q < n → decide (q ∈ A) = decide (sdA g n ≠ []) ∧ (F q != 0) = decide (sdA g n ≠ [])) := HALL.out.2
        clear HALL
        obtain ⟨sm, hsm⟩ : ∃ sm : Bool, sm = decide (sdA g n ≠ []) := ⟨_, rfl⟩
        rw [← hsm] at HALL2 ⊢
        clear hsm
        generalize sdA g n = A0 at *
        clear hk hlt
        go_wp2_with fail
        clear j2
        go_loopw [7, 10, 11, 12, 13] (fun v i _ _ _ wr => ∃ (A : List Nat) (I : Nat), I ≤ A.length ∧ i = .int .i64 I ∧ Sq g F n (fun q => besL W H q) A I ∧ SW wC BD n v A A wr) (fun _ i _ _ _ _ => n - (intOf i).toNat)
        case atStart => exact ⟨A0, 0, by omega, rfl, HQ0.out, HW.out⟩
        case round =>
          obtain ⟨A, I, hI, rfl, hsq, hw⟩ := hrel
          clear HW HQ0
          have HW := hide hw
          have HSq := hide hsq
          have hAn := hsq.len
          clear hw hsq
          by_cases hIlt : I < A.length
          case neg =>
            obtain rfl : I = A.length := by omega
            obtain ⟨av, cv, rfl⟩ := own_form3 HW.out.wt
            have HEN := hide (HALL2.out A HSq.out)
            clear HALL2 HSq hI hIlt
            go_wp2_with fail
            go_loopw [14] (fun i wr => ∃ k : Nat, k ≤ n ∧ i = .int .i64 k ∧ SW wC BD n (.slice av A.length cv) A A wr) (fun i _ => n - (intOf i).toNat)
            case atStart => exact ⟨0, by omega, rfl, HW.out⟩
            case round =>
              obtain ⟨k, hk, rfl, hw⟩ := hrel
              clear HW
              have HW := hide hw
              clear hw
              by_cases hlt : k < n
              · have hlt' : (k : Int) < (n : Int) := by omega
                obtain ⟨d0, -⟩ := HW.out.dn k hlt
                obtain ⟨e1, e2⟩ := HEN.out k hlt
                have q2 := (HQc.out _ HW.out.bl).2.2
                have y0 := HFc.out _ HW.out.bl k hlt
                rw [e1] at d0
                clear e1
                generalize F k = y at *
                have qss : (sm != sm) = false := by simp
                have qsy : (sm != (y != 0)) = false := by rw [e2]; simp
                go_wp2_with fail
                exact ⟨⟨k + 1, by omega, rfl, HW.out⟩, by simp [intOf]; omega⟩
              · obtain rfl : n = k := by omega
                have HB := hide (HBC.out.trans (HW.out.bl.mono HBC.out.size))
                clear HW
                go_wp2_with fail
                go_ret
                exact ⟨rfl, HB.out⟩
          have hI' : (I : Int) < (A.length : Int) := by omega
          obtain ⟨p, hp⟩ : ∃ p, A[I]? = some p := ⟨_, List.getElem?_eq_getElem hIlt⟩
          have hpn : p < n := HSq.out.lt p (List.mem_of_getElem? hp)
          have HPp := hide hp
          obtain ⟨bv, capv, rfl, hGb, hcell⟩ := own_partsL HW.out.wt (by omega)
          obtain ⟨x0, -⟩ := hcell I hIlt
          rw [csW_at hp] at x0
          obtain ⟨e1, ⟨e2, e3⟩, ⟨e4, e5⟩, e6, e7⟩ := HN.out
          have t1 : (p : Int).tmod W = (p : Int) % W := Int.tmod_eq_emod_of_nonneg (by omega)
          have t2 : (p : Int).tdiv W = (p : Int) / W := Int.tdiv_eq_ediv_of_nonneg (by omega)
          have hk0 : 0 ≤ (p : Int) % W := Int.emod_nonneg _ (by omega)
          have hk1 : (p : Int) % W < W := Int.emod_lt_of_pos _ (by omega)
          have hk2 : 0 ≤ (p : Int) / W := Int.ediv_nonneg (by omega) (by omega)
          have hk3 : (p : Int) / W < H := Int.ediv_lt_of_lt_mul (by omega) (by rw [Int.mul_comm, ← e1]; omega)
          have hW0 : ¬ W = 0 := by omega
          have hp65 : p ≤ 65 := by omega
          obtain ⟨kx, hkx⟩ : ∃ kx, (p : Int) % W = kx := ⟨_, rfl⟩
          obtain ⟨ky, hky⟩ : ∃ ky, (p : Int) / W = ky := ⟨_, rfl⟩
          have HKX := hide hkx
          have HKY := hide hky
          rw [hkx] at t1 hk0 hk1
          rw [hky] at t2 hk2 hk3
          have HNR : Hid (∀ j, nr W H p j = -1 ∨ (nr W H p j ∈ besL W H p ∧ 0 ≤ nr W H p j ∧ nr W H p j < n)) := nr_in e1 e2 hpn
          have HPN := hide hpn
          have HX0 : Hid (SX wC BD n (.slice (some ⟨bv, 0, none⟩) A.length capv) A A wr.heap.size (nrs W H p 0) (wr.alloc (.cells #[.int .i64 (-1), .int .i64 (-1), .int .i64 (-1), .int .i64 (-1)] 2))) := by
            refine ⟨HW.out.next (bnew _ _), fun j hj => ?_, ⟨HW.out.bl.size, by simp, by have := HW.out.lt.2; omega⟩, fun e => ?_⟩
            · have h4 : j = 0 ∨ j = 1 ∨ j = 2 ∨ j = 3 := by omega
              rcases h4 with rfl | rfl | rfl | rfl <;> exact ⟨by simp [go_sem, nrs], by simp [go_sem]⟩
            · have := owns_lt HW.out.wt _ e; omega
          have x0' : (wr.alloc (.cells #[.int .i64 (-1), .int .i64 (-1), .int .i64 (-1), .int .i64 (-1)] 2)).cell? ⟨bv, I, none⟩ = some (.int .i64 p) := cell_upW (bnew _ _) x0
          obtain ⟨iW, iH, -⟩ := HXc.out _ HX0.out.sw.bl
          clear e1 e7 hp hcell hGb hkx hky
          go_upto_region 26 with fail
          clear x0 x0' iW iH HW
          generalize wr.alloc (.cells #[.int .i64 (-1), .int .i64 (-1), .int .i64 (-1), .int .i64 (-1)] 2) = wk at *
          generalize wr.heap.size = NB at *
          generalize hv0 : Value.slice (some ⟨bv, 0, none⟩) A.length capv = v at *
          have HV0 := hide hv0
          clear hv0
          obtain ⟨iW, iH, -⟩ := HXc.out _ HX0.out.sw.bl
          go_upto_if 104 with fail
          go_cut [] (fun wc => SX wC BD n v A A NB (nrs W H p 1) wc)
          case first => as_aux_lemma =>
            by_cases hq : 0 < kx
            · have hz : nr W H p 0 = (p : Int) - 1 := by
                rw [nr0_eq]
                rw [if_pos (by rw [HKX.out]; exact hq)]
              have HXn := hide (HX0.out.put (f' := nrs W H p 1) (fun q _ => nrs_put hz q))
              obtain ⟨nc, nf⟩ := HX0.out.nr 0 (by omega)
              have hzw : IntKind.i64.wrap ((p : Int) - 1) = (p : Int) - 1 := by rw [IntKind.wrap_i64]; omega
              clear hz
              go_wp2_with fail
              go_meet
              exact HXn.out
            · have hz : nr W H p 0 = -1 := by
                rw [nr0_eq]
                rw [if_neg (by rw [HKX.out]; exact hq)]
              have HXn := hide (HX0.out.congr (f' := nrs W H p 1) (fun q _ => nrs_skip hz q))
              clear hz
              go_wp2_with fail
              go_meet
              exact HXn.out
          case rest =>
          have HX1 := hide hcut
          clear hcut HX0 iW iH
          obtain ⟨wk, hwk⟩ : ∃ wk', wk' = wc := ⟨_, rfl⟩
          rw [← hwk] at HX1 ⊢
          clear hwk
          obtain ⟨iW, iH, -⟩ := HXc.out _ HX1.out.sw.bl
          have SK : Nonempty (Up wk) := up_ne wk
          have rW := fun p : Up wk => p.cell iW
          go_upto_region 28 with fail
          refine region_up (by kernel_rfl) (by kernel_rfl) ?_
          repeat (go_big_quiet_step (exact rfl))
          refine wpQuiet_nil ?_
          intro _ hw2
          obtain ⟨pq, hw3⟩ := hw2
          subst hw3
          have HX1b := hide (HX1.out.next pq.below)
          clear rW SK HX1 iW
          generalize pq.w = wk at *
          obtain ⟨iW, iH, -⟩ := HXc.out _ HX1b.out.sw.bl
          go_upto_if 116 with fail
          go_cut [] (fun wc => SX wC BD n v A A NB (nrs W H p 2) wc)
          case first => as_aux_lemma =>
            by_cases hq : kx < W - 1
            · have hz : nr W H p 1 = (p : Int) + 1 := by
                rw [nr1_eq]
                rw [if_pos (by rw [HKX.out]; exact hq)]
              have HXn := hide (HX1b.out.put (f' := nrs W H p 2) (fun q _ => nrs_put hz q))
              obtain ⟨nc, nf⟩ := HX1b.out.nr 1 (by omega)
              have hzw : IntKind.i64.wrap ((p : Int) + 1) = (p : Int) + 1 := by rw [IntKind.wrap_i64]; omega
              clear hz
              go_wp2_with fail
              go_meet
              exact HXn.out
            · have hz : nr W H p 1 = -1 := by
                rw [nr1_eq]
                rw [if_neg (by rw [HKX.out]; exact hq)]
              have HXn := hide (HX1b.out.congr (f' := nrs W H p 2) (fun q _ => nrs_skip hz q))
              clear hz
              go_wp2_with fail
              go_meet
              exact HXn.out
          case rest =>
          have HX2 := hide hcut
          clear hcut HX1b iW iH
          obtain ⟨wk, hwk⟩ : ∃ wk', wk' = wc := ⟨_, rfl⟩
          rw [← hwk] at HX2 ⊢
          clear hwk
          obtain ⟨iW, iH, -⟩ := HXc.out _ HX2.out.sw.bl
          go_upto_if 124 with fail
          go_cut [] (fun wc => SX wC BD n v A A NB (nrs W H p 3) wc)
          case first => as_aux_lemma =>
            by_cases hq : W ≤ (p : Int)
            · have hz : nr W H p 2 = (p : Int) - W := by
                rw [nr2_eq]
                rw [if_pos hq]
              have HXn := hide (HX2.out.put (f' := nrs W H p 3) (fun q _ => nrs_put hz q))
              obtain ⟨nc, nf⟩ := HX2.out.nr 2 (by omega)
              have hzw : IntKind.i64.wrap ((p : Int) - W) = (p : Int) - W := by rw [IntKind.wrap_i64]; omega
              clear hz
              go_wp2_with fail
              go_meet
              exact HXn.out
            · have hz : nr W H p 2 = -1 := by
                rw [nr2_eq]
                rw [if_neg hq]
              have HXn := hide (HX2.out.congr (f' := nrs W H p 3) (fun q _ => nrs_skip hz q))
              clear hz
              go_wp2_with fail
              go_meet
              exact HXn.out
          case rest =>
          have HX3 := hide hcut
          clear hcut HX2 iW iH
          obtain ⟨wk, hwk⟩ : ∃ wk', wk' = wc := ⟨_, rfl⟩
          rw [← hwk] at HX3 ⊢
          clear hwk
          obtain ⟨iW, iH, -⟩ := HXc.out _ HX3.out.sw.bl
          have SK : Nonempty (Up wk) := up_ne wk
          have rW := fun p : Up wk => p.cell iW
          have rH := fun p : Up wk => p.cell iH
          go_upto_region 32 with fail
          refine region_up (by kernel_rfl) (by kernel_rfl) ?_
          repeat (go_big_quiet_step (exact rfl))
          refine wpQuiet_nil ?_
          intro _ hw2
          obtain ⟨pq, hw3⟩ := hw2
          subst hw3
          have HX3b := hide (HX3.out.next pq.below)
          clear rW rH SK HX3 iW iH
          generalize pq.w = wk at *
          obtain ⟨iW, iH, -⟩ := HXc.out _ HX3b.out.sw.bl
          go_upto_if 138 with fail
          go_cut [] (fun wc => SX wC BD n v A A NB (nrs W H p 4) wc)
          case first => as_aux_lemma =>
            by_cases hq : ky < H - 1
            · have hz : nr W H p 3 = (p : Int) + W := by
                rw [nr3_eq]
                rw [if_pos (by rw [HKY.out]; exact hq)]
              have HXn := hide (HX3b.out.put (f' := nrs W H p 4) (fun q _ => nrs_put hz q))
              obtain ⟨nc, nf⟩ := HX3b.out.nr 3 (by omega)
              have hzw : IntKind.i64.wrap ((p : Int) + W) = (p : Int) + W := by rw [IntKind.wrap_i64]; omega
              clear hz
              go_wp2_with fail
              go_meet
              exact HXn.out
            · have hz : nr W H p 3 = -1 := by
                rw [nr3_eq]
                rw [if_neg (by rw [HKY.out]; exact hq)]
              have HXn := hide (HX3b.out.congr (f' := nrs W H p 4) (fun q _ => nrs_skip hz q))
              clear hz
              go_wp2_with fail
              go_meet
              exact HXn.out
          case rest =>
          have HX4 := hide hcut
          clear hcut HX3b iW iH
          obtain ⟨wk, hwk⟩ : ∃ wk', wk' = wc := ⟨_, rfl⟩
          rw [← hwk] at HX4 ⊢
          clear hwk
          have HX := hide (HX4.out.congr (f' := nr W H p) (fun q hq => nrs_all q hq))
          clear HX4 t1 t2 hk0 hk1 hk2 hk3 HKX HKY
          go_wp2_with fail
          go_loopw [7, 13] (fun v j wr => ∃ (A : List Nat) (J : Nat), J ≤ 4 ∧ j = .int .i64 J ∧ Sj g F n W H A I p J ∧ SX wC BD n v A A NB (nr W H p) wr) (fun _ j _ => 4 - (intOf j).toNat)
          case atStart => exact ⟨A, 0, by omega, rfl, ⟨HSq.out, HPp.out, fun j hj => absurd hj (by omega)⟩, HX.out⟩
          case round =>
            obtain ⟨A', J, hJ, rfl, hsj, hx⟩ := hrel
            clear HX
            have HX := hide hx
            have HSj := hide hsj
            clear hx hsj
            by_cases hJlt : J < 4
            · have hJ' : (J : Int) < 4 := by omega
              obtain ⟨u0, -⟩ := HX.out.nr J hJlt
              obtain ⟨wq, hwq⟩ : ∃ wq, wq = wr := ⟨_, rfl⟩
              subst hwq
              have SK : Nonempty (Up wq) := up_ne wq
              rcases HNR.out J with hm | ⟨-, hm0, hm1⟩
              · have HS2 : Hid (Sj g F n W H A' I p (J + 1)) := HSj.out.pass (fun h => by omega)
                rw [hm] at u0
                have p0 := fun p : Up wq => p.cell u0
                clear hm
                go_upto_region 37 with fail
                refine region_up (by kernel_rfl) (by kernel_rfl) ?_
                repeat (go_big_quiet_step (exact rfl))
                refine wpQuiet_nil ?_
                intro _ hw2
                obtain ⟨pq, hw3⟩ := hw2
                subst hw3
                have HX2 := hide (HX.out.next pq.below)
                clear p0 u0 SK HX
                generalize pq.w = w2 at *
                go_wp2_with fail
                exact ⟨⟨A', J + 1, by omega, rfl, HS2.out, HX2.out⟩, by simp [intOf]; omega⟩
              · obtain ⟨q, hq⟩ : ∃ q : Nat, nr W H p J = (q : Int) := ⟨(nr W H p J).toNat, by omega⟩
                have HQJ := hide hq
                rw [hq] at u0 hm0 hm1
                have hqn : q < n := by omega
                obtain ⟨y0, fr0⟩ := HX.out.sw.dn q hqn
                have p0 := fun p : Up wq => p.cell u0
                clear hq
                by_cases hqA : q ∈ A'
                · have HS2 : Hid (Sj g F n W H A' I p (J + 1)) := HSj.out.pass (fun _ _ => by rw [HQJ.out, Int.toNat_natCast]; exact hqA)
                  rw [decide_eq_true hqA] at y0
                  have p1 := fun p : Up wq => p.cell y0
                  clear hqA
                  go_upto_region 37 with fail
                  refine region_up (by kernel_rfl) (by kernel_rfl) ?_
                  repeat (go_big_quiet_step (exact rfl))
                  refine wpQuiet_nil ?_
                  intro _ hw2
                  obtain ⟨pq, hw3⟩ := hw2
                  subst hw3
                  have HX2 := hide (HX.out.next pq.below)
                  clear p0 p1 u0 y0 fr0 SK HX
                  generalize pq.w = w2 at *
                  go_wp2_with fail
                  exact ⟨⟨A', J + 1, by omega, rfl, HS2.out, HX2.out⟩, by simp [intOf]; omega⟩
                · have HqA := hide hqA
                  rw [decide_eq_false hqA] at y0
                  have p1 := fun p : Up wq => p.cell y0
                  have z2 := (HQc.out _ HX.out.sw.bl).2.2
                  have zq := HFc.out _ HX.out.sw.bl q hqn
                  have zp := HFc.out _ HX.out.sw.bl p HPN.out
                  have p2 := fun p : Up wq => p.cell z2
                  have p3 := fun p : Up wq => p.cell zq
                  have p4 := fun p : Up wq => p.cell zp
                  have hpI : (p : Int) < (n : Int) := by omega
                  clear hqA
                  by_cases hFq : F q = F p
                  case neg =>
                    have HS2 : Hid (Sj g F n W H A' I p (J + 1)) := HSj.out.pass (fun _ h => by rw [HQJ.out, Int.toNat_natCast] at h; exact absurd h hFq)
                    have qf : (F q == F p) = false := by simp [hFq]
                    clear hFq
                    generalize F q = y at *
                    generalize F p = y' at *
                    go_upto_region 37 with fail
                    refine region_up (by kernel_rfl) (by kernel_rfl) ?_
                    repeat (go_big_quiet_step (exact rfl))
                    refine wpQuiet_nil ?_
                    intro _ hw2
                    obtain ⟨pq, hw3⟩ := hw2
                    subst hw3
                    have HX2 := hide (HX.out.next pq.below)
                    clear p0 p1 p2 p3 p4 u0 y0 fr0 z2 zq zp SK HX
                    generalize pq.w = w2 at *
                    go_wp2_with fail
                    exact ⟨⟨A', J + 1, by omega, rfl, HS2.out, HX2.out⟩, by simp [intOf]; omega⟩
                  have HS2 : Hid (Sj g F n W H (A' ++ [q]) I p (J + 1)) := HSj.out.add HQJ.out HqA.out hqn hFq
                  have hAl := HSj.out.sq.len
                  rw [hFq] at p3
                  clear hFq
                  generalize F p = y' at *
                  have qf : (y' == y') = true := by simp
                  go_upto_region 37 with fail
                  refine region_up (by kernel_rfl) (by kernel_rfl) ?_
                  repeat (go_big_quiet_step (exact rfl))
                  refine wpQuiet_nil ?_
                  intro _ hw2
                  obtain ⟨pq, hw3⟩ := hw2
                  subst hw3
                  have HX2 := hide (HX.out.next pq.below)
                  have u0 := pq.cell u0
                  have fr0 := (pq.below.frozen (p := ⟨BD, q, none⟩) (World.block_lt_of_cell? wq _ y0)).trans fr0
                  have y0 := pq.cell y0
                  clear p0 p1 p2 p3 p4 z2 zq zp SK HX
                  generalize pq.w = w2 at *
                  have HX3 := hide (HX2.out.mark q)
                  obtain ⟨u3, -⟩ := HX3.out.nr J hJlt
                  rw [HQJ.out] at u3
                  go_upto_region 39 with fail
                  clear y0 fr0 u0 HX2
                  generalize w2.setCell ⟨BD, q, none⟩ (.bool true) = w3 at *
                  have HL1 : Hid (A'.length ≤ 1048576) := by show _ ≤ _; omega
                  go_wp2_with (refine growN _ rfl _ _ rfl wC.heap.size _ A'.length (csW A') rfl w3 HX3.out.sw.wt (Below.refl _ _) HX3.out.sw.bl.size (q : Int) rfl HL1.out ?_)
                  intro v' w' ho' hb' hs' hk' hm'
                  have HX9 := hide (HX3.out.grow ho' hb' hk' hm')
                  clear ho' hb' hs' hk' hm' u3 HX3
                  go_wp2_with fail
                  exact ⟨⟨A' ++ [q], J + 1, by omega, rfl, HS2.out, HX9.out⟩, by simp [intOf]; omega⟩
            · obtain rfl : J = 4 := by omega
              have hI3 : I + 1 ≤ A'.length := by
                have := HSj.out.at_
                rcases Nat.lt_or_ge I A'.length with h1 | h1
                · omega
                · rw [List.getElem?_eq_none h1] at this; cases this
              have HS2 : Hid (Sq g F n (fun q => besL W H q) A' (I + 1)) := HSj.out.done HN.out.1 HN.out.2.1.1
              have HX2 := hide HX.out.sw
              clear HX HSj
              go_wp2_with fail
              exact ⟨⟨A', I + 1, hI3, rfl, HS2.out, HX2.out⟩, by simp [intOf]; omega⟩

end Go.Proofs.Ytekoioggamhlaaa
