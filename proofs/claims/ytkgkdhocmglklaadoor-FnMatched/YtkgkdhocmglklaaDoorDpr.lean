/- The draw of two cubes. -/
import Derived.Test.YtkgkdhocmglklaaDoorBxr
import Derived.Test.YtkgkdhocmglklaaDoorDtx
import Derived.Test.YtkgkdhocmglklaaDoorFco
namespace Go.Proofs.YtkgkdhocmglklaaDoor
open Go.RowKit

abbrev z4 : List Value := [.int .i64 0, .int .i64 0, .int .i64 0, .slice none 0 0]
abbrev v4 (X Y Z : Int) (a : Option Addr) (n c : Nat) : List Value := [.int .i64 X, .int .i64 Y, .int .i64 Z, .slice a n c]
/-- a list that lies in a block of which ok holds -/
def Ly (ok : Nat → Prop) (a : Option Addr) (n : Nat) (f : Nat → Int) (w : World) : Prop := n = 0 ∨ ∃ b, a = some ⟨b, 0, none⟩ ∧ ok b ∧ Row b n f w
theorem Row.kept {b n p : Nat} {f : Nat → Int} {w w' : World} (h : Row b n f w) (hk : Kept p w w') (hp : b ≠ p) : Row b n f w' := fun k hkn => by
  have := h k hkn
  exact ⟨hk.cell (a := ⟨b, k, none⟩) hp this.1, (hk.frozen (a := ⟨b, k, none⟩) hp this.1).trans this.2⟩
theorem Ly.mono {ok ok' : Nat → Prop} {a : Option Addr} {n : Nat} {f : Nat → Int} {w : World} (h : Ly ok a n f w) (ho : ∀ b, ok b → ok' b) : Ly ok' a n f w :=
  h.imp id fun ⟨b, e, h1, h2⟩ => ⟨b, e, ho b h1, h2⟩
theorem Ly.kept {ok : Nat → Prop} {a : Option Addr} {n : Nat} {f : Nat → Int} {p : Nat} {w w' : World} (h : Ly ok a n f w) (hk : Kept p w w') (ho : ∀ b, ok b → b ≠ p) : Ly ok a n f w' :=
  h.imp id fun ⟨b, e, h1, h2⟩ => ⟨b, e, h1, h2.kept hk (ho b h1)⟩
theorem Ly.next {ok : Nat → Prop} {a : Option Addr} {n : Nat} {f : Nat → Int} {w w' : World} (h : Ly ok a n f w) (hb : Below w.heap.size w w') : Ly ok a n f w' := by
  by_cases h0 : n = 0
  · exact .inl h0
  · obtain ⟨b, e, h1, h2⟩ := h.resolve_left h0
    exact .inr ⟨b, e, h1, h2.below hb (h2.lt (by omega))⟩
theorem Ly.set4 {ok : Nat → Prop} {a : Option Addr} {n : Nat} {f : Nat → Int} {w : World} (h : Ly ok a n f w) {c : Nat} (ho : ∀ b, ok b → c ≠ b) (x0 x1 x2 x3 : Value) : Ly ok a n f (set4 w c x0 x1 x2 x3) :=
  h.imp id fun ⟨b, e, h1, h2⟩ => ⟨b, e, h1, h2.far4 (ho b h1) _ _ _ _⟩
theorem Ly.px {ok : Nat → Prop} {a : Option Addr} {n : Nat} {f : Nat → Int} {w : World} (h : Ly ok a n f w) : Px a n f w := by
  rcases h with h | ⟨b, rfl, -, h⟩
  · exact .inl h
  · exact h.px
theorem Ly.of {w : World} {B : Nat} {a : Option Addr} {cp : Nat} {L : List Int} (h : w.ownsRow B 2 1 (.slice a L.length cp) L.length (ints L)) : Ly (fun b => B ≤ b ∧ b < w.heap.size) a L.length (fun k => L.getD k 0) w := by
  by_cases h0 : L.length = 0
  · exact .inl h0
  · obtain ⟨b, cp', e, hB, hr⟩ := own_row h h0
    cases e
    rw [Nat.mul_one] at hr
    exact .inr ⟨b, rfl, ⟨hB, hr.lt (by omega)⟩, hr⟩

/-- the pair at hand: the answers' boxes, the box of each, their lists -/
structure PS (p : Nat) (a : Option Addr) (len cap : Nat) (w : World) (q4 q5 : Nat) (U0 U1 U2 : Int) (M : List Int) (ag : Option Addr) (cg : Nat) (V0 V1 V2 : Int) (L : List Int) (af : Option Addr) (cf : Nat) (wr : World) : Prop where
  r1 : Bx w.heap.size z4 wr
  r2 : Bx (w.heap.size + 1) z4 wr
  b4 : Bx q4 (v4 U0 U1 U2 ag M.length cg) wr
  b5 : Bx q5 (v4 V0 V1 V2 af L.length cf) wr
  l4 : Ly (fun b => w.heap.size + 2 ≤ b ∧ b ≠ q4 ∧ b ≠ q5) ag M.length (fun k => M.getD k 0) wr
  l5 : Ly (fun b => w.heap.size + 2 ≤ b ∧ b ≠ q4 ∧ b ≠ q5) af L.length (fun k => L.getD k 0) wr
  ck : CK p a len cap w wr
structure PC (p : Nat) (a : Option Addr) (len : Nat) (w : World) (q4 q5 : Nat) : Prop where
  hp : p < w.heap.size
  hab : len = 0 ∨ ∀ b off, a = some ⟨b, off, none⟩ → b < w.heap.size
  h4 : w.heap.size + 2 ≤ q4
  h5 : q5 = q4 + 1
theorem PS.step {p : Nat} {a : Option Addr} {len cap : Nat} {w : World} {q4 q5 : Nat} {U0 U1 U2 : Int} {M : List Int} {ag : Option Addr} {cg : Nat} {V0 V1 V2 : Int} {L : List Int} {af : Option Addr} {cf : Nat} {wr w' : World} (h : PS p a len cap w q4 q5 U0 U1 U2 M ag cg V0 V1 V2 L af cf wr) (hv : PC p a len w q4 q5) (hc : Cur p a len cap w') (hk : Kept p wr w') : PS p a len cap w q4 q5 U0 U1 U2 M ag cg V0 V1 V2 L af cf w' := by
  obtain ⟨h1, h2, h3, h4⟩ := hv
  exact ⟨h.r1.kept hk (by omega), h.r2.kept hk (by omega), h.b4.kept hk (by omega), h.b5.kept hk (by omega), h.l4.kept hk (fun b hb => by omega), h.l5.kept hk (fun b hb => by omega), ⟨hc, h.ck.2.trans hk⟩⟩
theorem PS.set5 {p : Nat} {a : Option Addr} {len cap : Nat} {w : World} {q4 q5 : Nat} {U0 U1 U2 : Int} {M : List Int} {ag : Option Addr} {cg : Nat} {V0 V1 V2 : Int} {L : List Int} {af : Option Addr} {cf : Nat} {wr : World} (h : PS p a len cap w q4 q5 U0 U1 U2 M ag cg V0 V1 V2 L af cf wr) (hv : PC p a len w q4 q5) {Y0 Y1 Y2 : Int} {K : List Int} {ak : Option Addr} {ck : Nat} (hl : Ly (fun b => w.heap.size + 2 ≤ b ∧ b ≠ q4 ∧ b ≠ q5) ak K.length (fun k => K.getD k 0) wr) :
    PS p a len cap w q4 q5 U0 U1 U2 M ag cg Y0 Y1 Y2 K ak ck (set4 wr q5 (.int .i64 Y0) (.int .i64 Y1) (.int .i64 Y2) (.slice ak K.length ck)) := by
  obtain ⟨h1, h2, h3, h4⟩ := hv
  exact ⟨h.r1.far4 (by omega) _ _ _ _, h.r2.far4 (by omega) _ _ _ _, h.b4.far4 (by omega) _ _ _ _, h.b5.to4 _ _ _ _, h.l4.set4 (fun b hb => by omega) _ _ _ _, hl.set4 (fun b hb => by omega) _ _ _ _, h.ck.set4 h1 h2 (by omega) _ _ _ _⟩
theorem PS.same {p : Nat} {a : Option Addr} {len cap : Nat} {w : World} {q4 q5 : Nat} {U0 U1 U2 : Int} {M : List Int} {ag : Option Addr} {cg : Nat} {V0 V1 V2 : Int} {L : List Int} {af : Option Addr} {cf : Nat} {wr : World} (h : PS p a len cap w q4 q5 U0 U1 U2 M ag cg V0 V1 V2 L af cf wr) (hv : PC p a len w q4 q5) :
    PS p a len cap w q4 q5 V0 V1 V2 L af cf V0 V1 V2 L af cf (set4 wr q4 (.int .i64 V0) (.int .i64 V1) (.int .i64 V2) (.slice af L.length cf)) := by
  obtain ⟨h1, h2, h3, h4⟩ := hv
  exact ⟨h.r1.far4 (by omega) _ _ _ _, h.r2.far4 (by omega) _ _ _ _, h.b4.to4 _ _ _ _, h.b5.far4 (by omega) _ _ _ _, h.l5.set4 (fun b hb => by omega) _ _ _ _, h.l5.set4 (fun b hb => by omega) _ _ _ _, h.ck.set4 h1 h2 (by omega) _ _ _ _⟩
/-- the box of the first alone has changed, and its list lies behind all -/
theorem PS.grown {p : Nat} {a : Option Addr} {len cap : Nat} {w : World} {q4 q5 : Nat} {U0 U1 U2 : Int} {M : List Int} {ag : Option Addr} {cg : Nat} {V0 V1 V2 : Int} {L : List Int} {af : Option Addr} {cf : Nat} {wr w' : World} (h : PS p a len cap w q4 q5 U0 U1 U2 M ag cg V0 V1 V2 L af cf wr) (hv : PC p a len w q4 q5) (hk : Kept q5 wr w') {Y0 Y1 Y2 : Int} {K : List Int} {ak : Option Addr} {ck : Nat} (hb : Bx q5 (v4 Y0 Y1 Y2 ak K.length ck) w') (ho : w'.ownsRow wr.heap.size 2 1 (.slice ak K.length ck) K.length (ints K)) :
    PS p a len cap w q4 q5 U0 U1 U2 M ag cg Y0 Y1 Y2 K ak ck w' := by
  have e5 := h.b5.lt
  have hz := h.ck.2.size
  obtain ⟨h1, h2, h3, h4⟩ := hv
  have hbw : Below w.heap.size wr w' := hk.below (by omega) hz
  exact ⟨h.r1.kept hk (by omega), h.r2.kept hk (by omega), h.b4.kept hk (by omega), hb, h.l4.kept hk (fun b hb => by omega), (Ly.of ho).mono (fun b hb => by omega), ⟨h.ck.1.belowB hbw h1 h2, h.ck.2.belowB hbw (Nat.le_refl _)⟩⟩
theorem PS.fin12 {p : Nat} {a : Option Addr} {len cap : Nat} {w : World} {q4 q5 : Nat} {U0 U1 U2 : Int} {M : List Int} {ag : Option Addr} {cg : Nat} {V0 V1 V2 : Int} {L : List Int} {af : Option Addr} {cf : Nat} {wr : World} (h : PS p a len cap w q4 q5 U0 U1 U2 M ag cg V0 V1 V2 L af cf wr) (hv : PC p a len w q4 q5) {R2 : Nat} (hR : w.heap.size + 1 = R2) {x0 x1 x2 x3 y0 y1 y2 y3 : Value} :
    Ly (fun b => w.heap.size ≤ b) af L.length (fun k => L.getD k 0) (set4 (set4 wr w.heap.size x0 x1 x2 x3) R2 y0 y1 y2 y3).drew ∧ Ly (fun b => w.heap.size ≤ b) ag M.length (fun k => M.getD k 0) (set4 (set4 wr w.heap.size x0 x1 x2 x3) R2 y0 y1 y2 y3).drew ∧ CK p a len cap w (set4 (set4 wr w.heap.size x0 x1 x2 x3) R2 y0 y1 y2 y3).drew := by
  have hb : ∀ wx : World, Below wx.heap.size wx wx.drew := fun wx => (Below.refl _ _).drew
  have hc := CK.set4 (CK.set4 h.ck hv.hp hv.hab (Nat.le_refl _) x0 x1 x2 x3) hv.hp hv.hab (show w.heap.size ≤ R2 by omega) y0 y1 y2 y3
  exact ⟨((((h.l5.set4 (fun b hb => by omega) _ _ _ _).set4 (fun b hb => by omega) _ _ _ _).next (hb _)).mono (fun b hb => by omega)), ((((h.l4.set4 (fun b hb => by omega) _ _ _ _).set4 (fun b hb => by omega) _ _ _ _).next (hb _)).mono (fun b hb => by omega)), hc.1.drewN 1, hc.2.drew⟩
/-- two volumes are drawn -/
def DrP (p : Nat) (a : Option Addr) (len cap : Nat) (w : World) (e : Ending) (w' : World) : Prop :=
  ∃ (V0 V1 V2 : Int) (L : List Int) (af : Option Addr) (cf : Nat) (U0 U1 U2 : Int) (M : List Int) (ag : Option Addr) (cg : Nat), e = .returned (.tuple #[vVolume V0 V1 V2 af L.length cf, vVolume U0 U1 U2 ag M.length cg]) ∧ L.length ≤ 1000 ∧ M.length ≤ 1000 ∧
    Ly (fun b => w.heap.size ≤ b) af L.length (fun k => L.getD k 0) w' ∧ Ly (fun b => w.heap.size ≤ b) ag M.length (fun k => M.getD k 0) w' ∧ CK p a len cap w w'
/-- a turned cube: of side 0, or right -/
def TQ (lo : Nat) (X : Int) (n : Nat) (a : Option Addr) (w : World) : Prop := X = 0 ∨ (1 ≤ X ∧ X ≤ 10 ∧ (n : Int) = X * X * X ∧ ∃ b s, a = some ⟨b, 0, none⟩ ∧ lo ≤ b ∧ Row b n s w)
theorem cube_small {X : Int} (_ : 1 ≤ X) {n : Nat} (hn : (n : Int) = X * X * X) (h : n ≤ 1000) : X ≤ 10 := by
  by_cases h2 : X ≤ 10
  · exact h2
  · have h3 : 11 * 11 ≤ X * X := Int.mul_le_mul (by omega) (by omega) (by omega) (by omega)
    have h4 : 11 * 11 * 11 ≤ X * X * X := Int.mul_le_mul h3 (by omega) (by omega) (by omega)
    omega
theorem cube_pos {X : Int} (h1 : 1 ≤ X) {n : Nat} (hn : (n : Int) = X * X * X) : 1 ≤ n := by
  have h3 : 1 * 1 ≤ X * X := Int.mul_le_mul h1 h1 (by omega) (by omega)
  have h4 : 1 * 1 * 1 ≤ X * X * X := Int.mul_le_mul h3 h1 (by omega) (by omega)
  omega
theorem turnD_any (U0 U1 U2 : Int) (ag : Option Addr) (n cg : Nat) (f : Nat → Int) (hl : n ≤ 1000) (z0 z1 z2 z3 : Int) (hz : I4 z0 z1 z2 z3) (w : World) (h : Px ag n f w) :
    Calls Tryd.prog 7 #[vVolume U0 U1 U2 ag n cg, tv z0 z1 z2 z3] w fun e w' => ∃ X n' a' c', e = .returned (vVolume X X X a' n' c') ∧ TQ w.heap.size X n' a' w' ∧ Below w.heap.size w w' := by
  refine (specTurnVolume_any U0 U1 U2 ag n cg f (by omega) z0 z1 z2 z3 hz.1 hz.2.1 hz.2.2.1 hz.2.2.2 w h).mono ?_
  rintro e w' ⟨a', c', b', rfl, ho, hB, hb⟩
  refine ⟨_, _, a', c', rfl, ?_, hb⟩
  unfold tvX tvN
  unfold tvN at ho hB
  by_cases hc : tvB U0 U1 U2 n f z0 z1 z2 z3 = true
  · rw [if_pos hc, if_pos hc]
    rw [if_pos hc] at ho hB
    have hcub : cubB U0 U1 U2 n f = true := by
      unfold tvB at hc
      simp only [Bool.and_eq_true] at hc
      exact hc.1
    obtain ⟨-, -, hX, hn, -⟩ := cubB_parts hcub
    have h1 := cube_pos hX.1 hn
    refine .inr ⟨hX.1, cube_small hX.1 hn hl, hn, ?_⟩
    rcases ho with ho | ⟨rfl, hr⟩
    · omega
    · exact ⟨b', _, rfl, hB.resolve_left (by omega), hr⟩
  · rw [if_neg hc]
    exact .inl rfl
theorem TQ.kept {lo : Nat} {X : Int} {n : Nat} {a : Option Addr} {p : Nat} {w w' : World} (h : TQ lo X n a w) (hk : Kept p w w') (hp : p < lo) : TQ lo X n a w' :=
  h.imp id fun ⟨h1, h2, h3, b, s, e, hb, hr⟩ => ⟨h1, h2, h3, b, s, e, hb, hr.kept hk (by omega)⟩
theorem TQ.next {lo : Nat} {X : Int} {n : Nat} {a : Option Addr} {w w' : World} (h : TQ lo X n a w) (hb : Below w.heap.size w w') : TQ lo X n a w' :=
  h.imp id fun ⟨h1, h2, h3, b, s, e, hl, hr⟩ => ⟨h1, h2, h3, b, s, e, hl, hr.below hb (hr.lt (cube_pos h1 h3))⟩
theorem TQ.mono {lo lo' : Nat} {X : Int} {n : Nat} {a : Option Addr} {w : World} (h : TQ lo X n a w) (hl : lo' ≤ lo) : TQ lo' X n a w :=
  h.imp id fun ⟨h1, h2, h3, b, s, e, hb, hr⟩ => ⟨h1, h2, h3, b, s, e, by omega, hr⟩
/-- the region that turns: what stays -/
def p3R (p : Nat) (a : Option Addr) (len cap : Nat) (wB : World) (u : Nat → Value) (w : World) : Prop :=
  Cur p a len cap w ∧ Kept p wB w ∧ ∀ q, u 4 = .pointer (some ⟨q, 0, none⟩) → wB.heap.size ≤ q → u 5 ≠ undef ∨ Bx q z4 w
/-- what each operation leaves -/
def p3F (p : Nat) (wB : World) (bv : Value) (j : Nat) (u : Nat → Value) (w : World) : Prop :=
  match j with
  | 0 => u 0 = bv
  | 1 => u 1 = .pointer (some ⟨p, 0, none⟩)
  | 2 => ∃ z0 z1 z2 z3, u 2 = tv z0 z1 z2 z3 ∧ I4 z0 z1 z2 z3
  | 3 => u 5 ≠ undef ∨ ∃ X n a c, u 3 = vVolume X X X a n c ∧ TQ wB.heap.size X n a w ∧ ∀ q, u 4 = .pointer (some ⟨q, 0, none⟩) → ∀ b, a = some ⟨b, 0, none⟩ → X ≠ 0 → q ≠ b
  | 4 => ∃ q, u 4 = .pointer (some ⟨q, 0, none⟩) ∧ wB.heap.size ≤ q
  | 5 => ∃ q X n a c, u 4 = .pointer (some ⟨q, 0, none⟩) ∧ wB.heap.size ≤ q ∧ Bx q (v4 X X X a n c) w ∧ TQ wB.heap.size X n a w ∧ ∀ b, a = some ⟨b, 0, none⟩ → X ≠ 0 → q ≠ b
  | _ => True
theorem p3R_up {p : Nat} {a : Option Addr} {len cap : Nat} {wB : World} {u : Nat → Value} {w w' : World} (hpB : p < wB.heap.size) (h : p3R p a len cap wB u w) (hc : Cur p a len cap w') (hk : Kept p w w') (i : Nat) (hi : i < 4) (v : Value) : p3R p a len cap wB (upU u i v) w' := by
  refine ⟨hc, h.2.1.trans hk, fun q hq hqB => ?_⟩
  rw [upU_other u v (by omega)] at hq ⊢
  exact (h.2.2 q hq hqB).imp id fun hx => hx.kept hk (by omega)
theorem p3F_up {p : Nat} {wB : World} {bv : Value} {u : Nat → Value} {w w' : World} (hpB : p < wB.heap.size) (hk : Kept p w w') (i : Nat) (hi : i < 4) (v : Value) (j : Nat) (hj : j ≠ i) (h : p3F p wB bv j u w) : p3F p wB bv j (upU u i v) w' := by
  have up : upU u i v j = u j := upU_other u v hj
  have u4 : upU u i v 4 = u 4 := upU_other u v (by omega)
  have u5 : upU u i v 5 = u 5 := upU_other u v (by omega)
  match j, up, h with
  | 0, up, h => exact up.trans h
  | 1, up, h => exact up.trans h
  | 2, up, h => obtain ⟨z0, z1, z2, z3, h1, h2⟩ := h; exact ⟨z0, z1, z2, z3, up.trans h1, h2⟩
  | 3, up, h =>
    show upU u i v 5 ≠ undef ∨ _
    rw [u5]
    refine Or.imp id (fun ⟨X, n, a, c, h1, h2, h3⟩ => ⟨X, n, a, c, up.trans h1, h2.kept hk hpB, fun q hq => h3 q (u4.symm.trans hq)⟩) h
  | 4, up, h => obtain ⟨q, h1, h2⟩ := h; exact ⟨q, up.trans h1, h2⟩
  | 5, _, h => obtain ⟨q, X, n, a, c, h1, h2, h3, h4, h5⟩ := h; exact ⟨q, X, n, a, c, u4.trans h1, h2, h3.kept hk (by omega), h4.kept hk hpB, h5⟩
  | _ + 6, _, _ => trivial
theorem p3F_al {p : Nat} {wB : World} {bv : Value} {u : Nat → Value} {w : World} (o : Obj) (j : Nat) (hj : j ≠ 4) (hj5 : j ≠ 5) (h : p3F p wB bv j u w) : p3F p wB bv j (upU u 4 (.pointer (some ⟨w.heap.size, 0, none⟩))) (w.alloc o) := by
  have up : upU u 4 (.pointer (some ⟨w.heap.size, 0, none⟩)) j = u j := upU_other _ _ hj
  have u5 : upU u 4 (.pointer (some ⟨w.heap.size, 0, none⟩)) 5 = u 5 := upU_other _ _ (by omega)
  match j, up, h with
  | 0, up, h => exact up.trans h
  | 1, up, h => exact up.trans h
  | 2, up, h => obtain ⟨z0, z1, z2, z3, h1, h2⟩ := h; exact ⟨z0, z1, z2, z3, up.trans h1, h2⟩
  | 3, up, h =>
    show upU u 4 _ 5 ≠ undef ∨ _
    rw [u5]
    refine Or.imp id (fun ⟨X, n, a, c, h1, h2, h3⟩ => ⟨X, n, a, c, up.trans h1, h2.next (bnew w o), fun q hq b hb hX => ?_⟩) h
    rw [upU_same] at hq
    cases hq
    rcases h2 with h2 | ⟨g1, g2, g3, b', s, e, hl, hr⟩
    · exact absurd h2 hX
    · rw [hb] at e
      cases e
      have := hr.lt (cube_pos g1 g3)
      omega
  | _ + 6, _, _ => trivial
theorem p3F_st {p : Nat} {wB : World} {bv : Value} {u : Nat → Value} {w w' : World} {v : Value} (hv : v ≠ undef) (j : Nat) (hj : j ≠ 5) (h : p3F p wB bv j u w) : p3F p wB bv j (upU u 5 v) w' := by
  have up : upU u 5 v j = u j := upU_other u v hj
  match j, up, h with
  | 0, up, h => exact up.trans h
  | 1, up, h => exact up.trans h
  | 2, up, h => obtain ⟨z0, z1, z2, z3, h1, h2⟩ := h; exact ⟨z0, z1, z2, z3, up.trans h1, h2⟩
  | 3, _, _ => exact .inl (by rw [upU_same]; exact hv)
  | 4, up, h => obtain ⟨q, h1, h2⟩ := h; exact ⟨q, up.trans h1, h2⟩
  | _ + 6, _, _ => trivial
/-- the region that appends a voxel: is the list grown (told by its length) -/
def Grw (L : List Int) (v : Value) : Prop := ∃ a c, v = .slice a (L.length + 1) c
def p12R (B : Nat) (wr : World) (L : List Int) (af : Option Addr) (cf : Nat) (u : Nat → Value) (w : World) : Prop :=
  u 24 = undef → Below B wr w ∧ (w.ownsRow B 2 1 (.slice af L.length cf) L.length (ints L) ∨ Grw L (u 22))
def p12F (B : Nat) (wr : World) (L : List Int) (q5 : Nat) (G : Nat → Value → Prop) (j : Nat) (u : Nat → Value) (w : World) : Prop :=
  G j (u j) ∧ (j = 21 → u 24 ≠ undef ∨ Grw L (u 22) ∨ ∃ y b, u 21 = .slice (some ⟨b, 0, none⟩) 1 1 ∧ B ≤ b ∧ w.heap[b]? = some (.cells #[.int .i64 y] 2)) ∧
  (j = 22 → u 24 ≠ undef ∨ ∃ y a c, u 22 = .slice a (L.length + 1) c ∧ w.ownsRow B 2 1 (.slice a (L.length + 1) c) (L.length + 1) (ints (L ++ [y]))) ∧
  (j = 24 → ∃ w1 y a c, w = w1.setCell ⟨q5, 3, none⟩ (.slice a (L.length + 1) c) ∧ Below B wr w1 ∧ w1.ownsRow B 2 1 (.slice a (L.length + 1) c) (L.length + 1) (ints (L ++ [y])) ∧ u 22 = .slice a (L.length + 1) c)
theorem owns_next {w w' : World} {B n m : Nat} {e : TypeId} {v : Value} {xs : List Value} (h : w.ownsRow B e m v n xs) (hb : Below w.heap.size w w') : w'.ownsRow B e m v n xs := owns_keepV h fun b _ hl => hb.block b hl
theorem p12R_up {B : Nat} {wr : World} {L : List Int} {af : Option Addr} {cf : Nat} {u : Nat → Value} {w w' : World} (hB : B ≤ w.heap.size) (h : p12R B wr L af cf u w) (hb : Below w.heap.size w w') (i : Nat) (h22 : 22 ≠ i) (h24 : 24 ≠ i) (v : Value) : p12R B wr L af cf (upU u i v) w' := by
  intro h0
  rw [upU_other u v h24] at h0
  rw [upU_other u v h22]
  obtain ⟨h1, h2⟩ := h h0
  exact ⟨h1.trans (hb.mono hB), h2.imp (fun h => owns_next h hb) id⟩
theorem p12F_up {B : Nat} {wr : World} {L : List Int} {q5 : Nat} {G : Nat → Value → Prop} {u : Nat → Value} {w w' : World} (hb : Below w.heap.size w w') (i : Nat) (h22 : 22 ≠ i) (h24 : 24 ≠ i) (v : Value) (j : Nat) (hj : j ≠ i) (hj24 : j ≠ 24) (h : p12F B wr L q5 G j u w) : p12F B wr L q5 G j (upU u i v) w' := by
  obtain ⟨h1, h2, h3, h4⟩ := h
  refine ⟨by rw [upU_other u v hj]; exact h1, fun e => ?_, fun e => ?_, fun e => absurd e hj24⟩
  · rw [upU_other u v h24, upU_other u v h22, upU_other u v (show 21 ≠ i from fun e' => hj (e.trans e'))]
    rcases h2 e with g | g | ⟨y, b, g1, g2, g3⟩
    · exact .inl g
    · exact .inr (.inl g)
    · exact .inr (.inr ⟨y, b, g1, g2, (hb.block b (by
        by_cases hl : b < w.heap.size
        · exact hl
        · rw [Array.getElem?_eq_none (by omega)] at g3; cases g3)).trans g3⟩)
  · rw [upU_other u v h24, upU_other u v h22]
    rcases h3 e with g | ⟨y, a, c, g1, g2⟩
    · exact .inl g
    · exact .inr ⟨y, a, c, g1, owns_next g2 hb⟩

theorem p12F_gr {B : Nat} {wr : World} {L : List Int} {q5 : Nat} {G : Nat → Value → Prop} {u : Nat → Value} {w w' : World} {v : Value} (hv : Grw L v) (j : Nat) (hj : j ≠ 22) (hj24 : j ≠ 24) (h : p12F B wr L q5 G j u w) : p12F B wr L q5 G j (upU u 22 v) w' := by
  obtain ⟨h1, h2, h3, h4⟩ := h
  exact ⟨by rw [upU_other u v hj]; exact h1, fun _ => .inr (.inl (by rw [upU_same]; exact hv)), fun e => absurd e hj, fun e => absurd e hj24⟩
theorem p12F_st {B : Nat} {wr : World} {L : List Int} {q5 : Nat} {G : Nat → Value → Prop} {u : Nat → Value} {w w' : World} {v : Value} (hv : v ≠ undef) (j : Nat) (hj : j ≠ 24) (h : p12F B wr L q5 G j u w) : p12F B wr L q5 G j (upU u 24 v) w' := by
  obtain ⟨h1, h2, h3, h4⟩ := h
  exact ⟨by rw [upU_other u v hj]; exact h1, fun _ => .inl (by rw [upU_same]; exact hv), fun _ => .inl (by rw [upU_same]; exact hv), fun e => absurd e hj⟩

set_option maxRecDepth 100000 in
set_option maxHeartbeats 8000000 in
theorem l10DrawPair_any (p : Nat) (a : Option Addr) (len cap : Nat) (w : World) (h : Cur p a len cap w) (hp : p < w.heap.size) (hab : len = 0 ∨ ∀ b off, a = some ⟨b, off, none⟩ → b < w.heap.size) :
    Calls Tryd.prog 35 #[.pointer (some ⟨p, 0, none⟩)] w (DrP p a len cap w) := by
  obtain ⟨w1, hw1⟩ : ∃ w1, w1 = (w.alloc (.cells #[.int .i64 0, .int .i64 0, .int .i64 0, .slice none 0 0] 26)).alloc (.cells #[.int .i64 0, .int .i64 0, .int .i64 0, .slice none 0 0] 26) := ⟨_, rfl⟩
  have hb1 : Below w.heap.size w w1 := by rw [hw1]; exact (bnew _ _).alloc (by simp) _
  have HS1 : Hid (w1.heap.size = w.heap.size + 2) := by show _ = _; rw [hw1]; simp
  have HR1 : Hid (Bx w.heap.size z4 w1) := by
    rw [hw1]; exact (Bx.new z4 26 w).below (bnew _ _) (by simp)
  have HR2 : Hid (Bx (w.heap.size + 1) z4 w1) := by
    rw [hw1]
    have := Bx.new z4 26 (w.alloc (.cells #[.int .i64 0, .int .i64 0, .int .i64 0, .slice none 0 0] 26))
    rwa [show (w.alloc (.cells #[.int .i64 0, .int .i64 0, .int .i64 0, .slice none 0 0] 26)).heap.size = w.heap.size + 1 by simp] at this
  have HCK1 : Hid (CK p a len cap w w1) := ⟨h.below hb1, Kept.of_below hb1⟩
  have HAB := hide hab
  clear h hab hb1
  go_enter Tryd.func35, Tryd.ntmps35
  go_upto_region 1 with fail
  rw [← hw1]
  clear hw1
  have cA := l10DrawAnyCube_any p a len cap w1 HCK1.out.1 (by have := HS1.out; omega) (HAB.out.imp id fun h b off e => by have := h b off e; have := HS1.out; omega)
  go_wp2_with fail
  refine cA.mono ?_
  rintro e w2 ⟨U0, U1, U2, M, ag, cg, rfl, hM, ho, hc, hk⟩
  have hs1 := HS1.out
  have hz := hk.size
  have HM := hide hM
  have HPC : Hid (PC p a len w w2.heap.size (w2.heap.size + 1)) := ⟨hp, HAB.out, by omega, rfl⟩
  obtain ⟨w3, hw3⟩ : ∃ w3, w3 = (w2.alloc (.cells #[.int .i64 U0, .int .i64 U1, .int .i64 U2, .slice ag M.length cg] 26)).alloc (.cells #[.int .i64 U0, .int .i64 U1, .int .i64 U2, .slice ag M.length cg] 26) := ⟨_, rfl⟩
  have hb3 : Below w2.heap.size w2 w3 := by rw [hw3]; exact (bnew _ _).alloc (by simp) _
  have HL3 : Hid (Ly (fun b => w.heap.size + 2 ≤ b ∧ b ≠ w2.heap.size ∧ b ≠ w2.heap.size + 1) ag M.length (fun k => M.getD k 0) w3) := ((Ly.of ho).next hb3).mono (fun b hb => by omega)
  have HP3 : Hid (PS p a len cap w w2.heap.size (w2.heap.size + 1) U0 U1 U2 M ag cg U0 U1 U2 M ag cg w3) := by
    refine ⟨(HR1.out.kept hk (by omega)).below hb3 (by omega), (HR2.out.kept hk (by omega)).below hb3 (by omega), ?_, ?_, HL3.out, HL3.out, ⟨hc.below hb3, (HCK1.out.2.trans hk).trans (Kept.of_below hb3)⟩⟩
    · rw [hw3]; exact (Bx.new (v4 U0 U1 U2 ag M.length cg) 26 w2).below (bnew _ _) (by simp)
    · rw [hw3]
      have := Bx.new (v4 U0 U1 U2 ag M.length cg) 26 (w2.alloc (.cells #[.int .i64 U0, .int .i64 U1, .int .i64 U2, .slice ag M.length cg] 26))
      rwa [show (w2.alloc (.cells #[.int .i64 U0, .int .i64 U1, .int .i64 U2, .slice ag M.length cg] 26)).heap.size = w2.heap.size + 1 by simp] at this
  clear cA ho hc hk hM hs1 hz hb3 HL3 HR1 HR2 HCK1 HS1
  go_upto_region 3 with fail
  rw [← hw3]
  clear hw3
  generalize hq5 : w2.heap.size + 1 = q5 at *
  generalize w2.heap.size = q4 at *
  clear hq5
  have HCT := hide (fun z0 z1 z2 z3 hz wx hx => turnD_any U0 U1 U2 ag M.length cg (fun k => M.getD k 0) HM.out z0 z1 z2 z3 hz wx hx)
  go_cut [6, 67] (fun s g wc => g = undef ∧ ∃ q X n a' c, s = .pointer (some ⟨q, 0, none⟩) ∧ w3.heap.size ≤ q ∧ Bx q (v4 X X X a' n c) wc ∧ TQ w3.heap.size X n a' wc ∧ (∀ b, a' = some ⟨b, 0, none⟩ → X ≠ 0 → q ≠ b) ∧ Cur p a len cap wc ∧ Kept p w3 wc)
  case first =>
    have hpB : p < w3.heap.size := Nat.lt_of_lt_of_le hp HP3.out.ck.2.size
    have HABB : Hid (len = 0 ∨ ∀ b off, a = some ⟨b, off, none⟩ → b < w3.heap.size) := HAB.out.imp id fun h b off e => Nat.lt_of_lt_of_le (h b off e) HP3.out.ck.2.size
    refine region_opsU (p3R p a len cap w3) (p3F p w3 (vVolume U0 U1 U2 ag M.length cg)) (by kernel_rfl) (by kernel_rfl) (by kernel_rfl) ?_ ?_ ?_
    · exact ⟨HP3.out.ck.1.drewN 1, (Kept.refl p w3).drew, fun q hq => Value.noConfusion (Eq.trans (Eq.symm hq) (show _ = undef by kernel_rfl))⟩
    · refine ⟨?_, ?_, ?_, ?_, ?_, ?_, trivial⟩
      · intro u w21 au hau hu hF hp' K hK
        have t4 : au.tmps[4]?.getD undef = .pointer (some ⟨q4, 0, none⟩) := by rw [hau.out]; kernel_rfl
        have bx := HP3.out.b4.kept hF.2.1 (by have := HPC.out.h4; omega)
        obtain ⟨x0, -⟩ := bx 0 _ rfl
        obtain ⟨x1, -⟩ := bx 1 _ rfl
        obtain ⟨x2, -⟩ := bx 2 _ rfl
        obtain ⟨x3, -⟩ := bx 3 _ rfl
        clear bx
        refine step_plain rfl ?_
        go_simp
        exact hK.out (vVolume U0 U1 U2 ag M.length cg) _ (p3R_up hpB hF hF.1 (Kept.refl _ _) 0 (by omega) _) (upU_same _ _ _) (fun j hj _ h => p3F_up hpB (Kept.refl _ _) 0 (by omega) _ j hj h)
      · intro u w21 au hau hu hF hp' K hK
        have t0 : au.tmps[0]?.getD undef = .pointer (some ⟨p, 0, none⟩) := by rw [hau.out]; kernel_rfl
        refine step_plain rfl ?_
        go_simp
        exact hK.out (.pointer (some ⟨p, 0, none⟩)) _ (p3R_up hpB hF hF.1 (Kept.refl _ _) 1 (by omega) _) (upU_same _ _ _) (fun j hj _ h => p3F_up hpB (Kept.refl _ _) 1 (by omega) _ j hj h)
      · intro u w21 au hau hu hF hp' K hK
        have h1 : u 1 = .pointer (some ⟨p, 0, none⟩) := PreF.get hp' 1 (by kernel_rfl)
        have t15 : au.tmps[15]?.getD undef = u 1 := by rw [hau.out]; kernel_rfl
        rw [h1] at t15
        have c := l10Draw_any p a len cap w21 hF.1 (Nat.lt_of_lt_of_le hpB hF.2.1.size) (HABB.out.imp id fun h b off e => Nat.lt_of_lt_of_le (h b off e) hF.2.1.size)
        refine step_plain rfl ?_
        go_simp
        refine c.mono ?_
        rintro e w22 ⟨z0, z1, z2, z3, rfl, g0, g1, g2, g3, hc, hk⟩
        exact hK.out (tv z0 z1 z2 z3) _ (p3R_up hpB hF hc hk 2 (by omega) _) ⟨z0, z1, z2, z3, upU_same _ _ _, I4.of g0 ⟨by omega, by omega⟩ g2 g3⟩ (fun j hj _ h => p3F_up hpB hk 2 (by omega) _ j hj h)
      · intro u w21 au hau hu hF hp' K hK
        have h0 : u 0 = vVolume U0 U1 U2 ag M.length cg := PreF.get hp' 0 (by kernel_rfl)
        have t14 : au.tmps[14]?.getD undef = u 0 := by rw [hau.out]; kernel_rfl
        rw [h0] at t14
        obtain ⟨z0, z1, z2, z3, h2, hz⟩ : ∃ z0 z1 z2 z3, u 2 = tv z0 z1 z2 z3 ∧ I4 z0 z1 z2 z3 := PreF.get hp' 2 (by kernel_rfl)
        have t16 : au.tmps[16]?.getD undef = u 2 := by rw [hau.out]; kernel_rfl
        rw [h2] at t16
        have h5 : u 5 = undef := (hu.out 5 (by decide) (.inr (by kernel_rfl))).trans (by kernel_rfl)
        have c := HCT.out z0 z1 z2 z3 hz w21 (HP3.out.l4.kept hF.2.1 (fun b hb => by omega)).px
        refine step_plain rfl ?_
        go_simp
        refine c.mono ?_
        rintro e w22 ⟨X, n, a', c', rfl, hq, hb9⟩
        have hk : Kept p w21 w22 := Kept.of_below hb9
        refine hK.out (vVolume X X X a' n c') _ (p3R_up hpB hF (hF.1.below hb9) hk 3 (by omega) _) (.inr ⟨X, n, a', c', upU_same _ _ _, hq.mono hF.2.1.size, fun q hq' b hb hX => ?_⟩) (fun j hj _ h => p3F_up hpB hk 3 (by omega) _ j hj h)
        rw [upU_other _ _ (by omega)] at hq'
        rcases hq with hq | ⟨-, -, -, b', s, e', hlo, -⟩
        · exact absurd hq hX
        · rw [hb] at e'
          cases e'
          by_cases hqB : w3.heap.size ≤ q
          · have := (((hF.2.2 q hq' hqB).resolve_left (fun h => h h5))).lt
            omega
          · have := hF.2.1.size
            omega
      · intro u w21 au hau hu hF hp' K hK
        refine step_plain rfl ?_
        go_simp
        have hb9 := bnew w21 (.cells #[.int .i64 0, .int .i64 0, .int .i64 0, .slice none 0 0] 26)
        refine hK.out (.pointer (some ⟨w21.heap.size, 0, none⟩)) _ ⟨hF.1.below hb9, hF.2.1.trans (Kept.of_below hb9), fun q hq _ => ?_⟩ ⟨w21.heap.size, upU_same _ _ _, hF.2.1.size⟩ (fun j hj hf h => p3F_al _ j hj (fun e => by subst e; exact absurd (Eq.trans (Eq.symm (by kernel_rfl)) hf) Bool.false_ne_true) h)
        rw [upU_same] at hq
        cases hq
        exact .inr (Bx.new z4 26 w21)
      · intro u w21 au hau hu hF hp' K hK
        have h5 : u 5 = undef := (hu.out 5 (by decide) (.inl rfl)).trans (by kernel_rfl)
        obtain ⟨q, h4, hqB⟩ : ∃ q, u 4 = .pointer (some ⟨q, 0, none⟩) ∧ w3.heap.size ≤ q := PreF.get hp' 4 (by kernel_rfl)
        have t6 : au.tmps[6]?.getD undef = u 4 := by rw [hau.out]; kernel_rfl
        rw [h4] at t6
        obtain ⟨X, n, a', c', h3, hq, hne⟩ := (PreF.get hp' 3 (by kernel_rfl) : p3F p w3 _ 3 u w21).resolve_left (fun h => h h5)
        have t17 : au.tmps[17]?.getD undef = u 3 := by rw [hau.out]; kernel_rfl
        rw [h3] at t17
        have hbx := (hF.2.2 q h4 hqB).resolve_left (fun h => h h5)
        obtain ⟨x0, y0⟩ := hbx 0 _ rfl
        obtain ⟨x1, y1⟩ := hbx 1 _ rfl
        obtain ⟨x2, y2⟩ := hbx 2 _ rfl
        obtain ⟨x3, y3⟩ := hbx 3 _ rfl
        have HNE := hide (hne q h4)
        have HQ := hide hq
        clear hne hq
        refine step_plain rfl ?_
        go_simp
        have hbw : Below w3.heap.size w21 (set4 w21 q (.int .i64 X) (.int .i64 X) (.int .i64 X) (.slice a' n c')) := below_set4 (Below.refl _ _) hqB _ _ _ _
        refine hK.out (.bool true) _ ⟨hF.1.belowB hbw hpB HABB.out, hF.2.1.belowB hbw (Nat.le_refl _), fun _ _ _ => .inl (by rw [upU_same]; simp [undef])⟩ ⟨q, X, n, a', c', (upU_other _ _ (by omega)).trans h4, hqB, hbx.to4 _ _ _ _, ?_, HNE.out⟩ (fun j hj _ h => p3F_st (by simp [undef]) j hj h)
        rcases HQ.out with hq | ⟨g1, g2, g3, b', s, e', hlo, hr⟩
        · exact .inl hq
        · exact .inr ⟨g1, g2, g3, b', s, e', hlo, hr.far4 (HNE.out b' e' (by omega)) _ _ _ _⟩
    · intro u w30 hF hall
      obtain ⟨q, X, n, a', c', h4, hqB, hbx, hq, hne⟩ : ∃ q X n a' c, u 4 = .pointer (some ⟨q, 0, none⟩) ∧ w3.heap.size ≤ q ∧ Bx q (v4 X X X a' n c) w30 ∧ TQ w3.heap.size X n a' w30 ∧ ∀ b, a' = some ⟨b, 0, none⟩ → X ≠ 0 → q ≠ b := hall 5 (by decide)
      have HE9 := hide (And.intro hqB (And.intro hbx (And.intro hq (And.intro hne (And.intro hF.1 hF.2.1)))))
      clear hF hall hqB hbx hq hne
      simp only [rgPut, Act.put, h4]
      clear h4
      go_simp
      go_wp2_with fail
      go_meet
      exact ⟨rfl, q, X, n, a', c', rfl, HE9.out⟩
  case rest =>
    obtain ⟨rfl, q6, X, n, at', ct, rfl, hq6, hbx, htq, hne, hc, hk⟩ := hcut
    obtain ⟨w5, hwc⟩ : ∃ w5, w5 = wc := ⟨_, rfl⟩
    rw [← hwc] at hbx htq hc hk
    rw [← hwc]
    clear hwc
    have hpB : p < w3.heap.size := Nat.lt_of_lt_of_le hp HP3.out.ck.2.size
    have HQ5 : Hid (q5 < w3.heap.size) := HP3.out.b5.lt
    have HP5 := hide (HP3.out.step HPC.out hc hk)
    have HB6 := hide hbx
    have HTQ := hide htq
    have HNE := hide hne
    have HQ6 := hide hq6
    have HK5 := hide hk
    clear hbx htq hne hq6 hc hk HP3 HCT
    go_upto_region 4 with fail
    go_cut [25, 67] (fun s g wc => g = undef ∧ ∃ bq : Bool, s = .bool bq ∧ (bq = true → 1 ≤ X) ∧ PS p a len cap w q4 q5 U0 U1 U2 M ag cg U0 U1 U2 M ag cg wc ∧ Bx q6 (v4 X X X at' n ct) wc ∧ TQ w3.heap.size X n at' wc)
    case first =>
      obtain ⟨x0, -⟩ := HB6.out 0 _ rfl
      by_cases hX : 0 < X
      · have c1 := once_any p a len cap w5 HP5.out.ck.1 4 (by omega) (by omega)
        go_wp2_with fail
        refine c1.mono ?_
        rintro e w6 ⟨b, rfl, hc, hk⟩
        have HE : Hid (PS p a len cap w q4 q5 U0 U1 U2 M ag cg U0 U1 U2 M ag cg w6 ∧ Bx q6 (v4 X X X at' n ct) w6 ∧ TQ w3.heap.size X n at' w6) := ⟨HP5.out.step HPC.out hc hk, HB6.out.kept hk (by have := HQ6.out; omega), HTQ.out.kept hk hpB⟩
        clear c1 hc hk x0
        go_wp2_with fail
        go_meet
        exact ⟨rfl, _, rfl, fun _ => by omega, HE.out⟩
      · go_wp2_with fail
        go_meet
        exact ⟨rfl, _, rfl, fun h => by simp_all, HP5.out, HB6.out, HTQ.out⟩
    case rest =>
      obtain ⟨rfl, bq, rfl, hbq, hps, hbx, htq⟩ := hcut
      obtain ⟨w6, hwc⟩ : ∃ w6, w6 = wc := ⟨_, rfl⟩
      rw [← hwc] at hps hbx htq
      rw [← hwc]
      clear hwc HP5 HB6 HTQ HK5
      have HP6 := hide hps
      have HB6 := hide hbx
      have HTQ := hide htq
      clear hps hbx htq
      go_upto_if 25 with fail
      go_cut [] (fun wc => ∃ V0 V1 V2 L af cf, L.length ≤ 1000 ∧ PS p a len cap w q4 q5 U0 U1 U2 M ag cg V0 V1 V2 L af cf wc)
      case first =>
        cases bq
        · have c1 := l10DrawAnyCube_any p a len cap w6 HP6.out.ck.1 (Nat.lt_of_lt_of_le hp HP6.out.ck.2.size) (HAB.out.imp id fun h b off e => Nat.lt_of_lt_of_le (h b off e) HP6.out.ck.2.size)
          go_wp2_with fail
          refine c1.mono ?_
          rintro e w7 ⟨V0, V1, V2, L, af, cf, rfl, hL, ho, hc, hk⟩
          have HP7 := hide (HP6.out.step HPC.out hc hk)
          have HE := hide (HP7.out.set5 HPC.out (Y0 := V0) (Y1 := V1) (Y2 := V2) (K := L) (ck := cf) ((Ly.of ho).mono (fun b hb => by have := HP6.out.b5.lt; have := HP6.out.b4.lt; have := HP6.out.r2.lt; omega)))
          have HL := hide hL
          obtain ⟨x0, y0⟩ := HP7.out.b5 0 _ rfl
          obtain ⟨x1, y1⟩ := HP7.out.b5 1 _ rfl
          obtain ⟨x2, y2⟩ := HP7.out.b5 2 _ rfl
          obtain ⟨x3, y3⟩ := HP7.out.b5 3 _ rfl
          clear c1 ho hc hk hL HP6 HP7
          go_wp2_with fail
          go_meet
          exact ⟨V0, V1, V2, L, af, cf, HL.out, HE.out⟩
        · have hX1 := hbq rfl
          obtain ⟨-, hX10, hn3, tb, s, rfl, htb, hrt⟩ := HTQ.out.resolve_left (by omega)
          obtain ⟨x0, -⟩ := HB6.out 0 _ rfl
          have c1 := from_any p a len cap w6 HP6.out.ck.1 (-1) 1 (by omega) (by omega) (by omega)
          go_wp2_with fail
          refine c1.mono ?_
          rintro e w7 ⟨sx, rfl, sx0, sx1, hc, hk⟩
          have HP7 := hide (HP6.out.step HPC.out hc hk)
          have HB7 := hide (HB6.out.kept hk (by have := HQ6.out; omega))
          have HT7 := hide (hrt.kept hk (by omega))
          clear c1 hc hk x0 HP6 HB6 hrt HTQ
          have c1 := from_any p a len cap w7 HP7.out.ck.1 (-1) 1 (by omega) (by omega) (by omega)
          go_wp2_with fail
          refine c1.mono ?_
          rintro e w8 ⟨sy, rfl, sy0, sy1, hc, hk⟩
          have HP8 := hide (HP7.out.step HPC.out hc hk)
          have HB8 := hide (HB7.out.kept hk (by have := HQ6.out; omega))
          have HT8 := hide (HT7.out.kept hk (by omega))
          clear c1 hc hk HP7 HB7 HT7
          obtain ⟨x0, y0⟩ := HP8.out.b5 0 _ rfl
          obtain ⟨x1, y1⟩ := HP8.out.b5 1 _ rfl
          obtain ⟨x2, y2⟩ := HP8.out.b5 2 _ rfl
          obtain ⟨x3, y3⟩ := HP8.out.b5 3 _ rfl
          have hq56 : q5 ≠ q6 := by have := HQ6.out; have := HQ5.out; omega
          have hq5t : q5 ≠ tb := by have := HQ5.out; omega
          obtain ⟨w9, hw9⟩ : ∃ w9, w9 = set4 w8 q5 (.int .i64 X) (.int .i64 X) (.int .i64 X) (.slice none 0 0) := ⟨_, rfl⟩
          have HP9 : Hid (PS p a len cap w q4 q5 U0 U1 U2 M ag cg X X X [] none 0 w9) := by
            rw [hw9]; exact HP8.out.set5 HPC.out (Y0 := X) (Y1 := X) (Y2 := X) (K := []) (ak := none) (ck := 0) (.inl rfl)
          have HB9 : Hid (Bx q6 (v4 X X X (some ⟨tb, 0, none⟩) n ct) w9) := by rw [hw9]; exact HB8.out.far4 hq56 _ _ _ _
          have HT9 : Hid (Row tb n s w9) := by rw [hw9]; exact HT8.out.far4 hq5t _ _ _ _
          have hw9' : (((w8.setCell ⟨q5, 0, none⟩ (.int .i64 X)).setCell ⟨q5, 1, none⟩ (.int .i64 X)).setCell ⟨q5, 2, none⟩ (.int .i64 X)).setCell ⟨q5, 3, none⟩ (.slice none 0 0) = w9 := hw9.symm
          clear hw9
          have hXn : (X : Int) ≠ 0 := by omega
          go_upto_region 9 with fail
          try rw [hw9']
          clear x0 x1 x2 x3 y0 y1 y2 y3 HP8 HB8 HT8 hw9'
          have m1 : IntKind.i64.wrap (X * X) = X * X := by
            have : X * X ≤ 10 * 10 := Int.mul_le_mul hX10 hX10 (by omega) (by omega)
            have h0 : 0 ≤ X * X := Int.mul_nonneg (by omega) (by omega)
            rw [IntKind.wrap_i64]; omega
          have hn1000 : n ≤ 1000 := by
            have h1 : X * X ≤ 10 * 10 := Int.mul_le_mul hX10 hX10 (by omega) (by omega)
            have h0 : 0 ≤ X * X := Int.mul_nonneg (by omega) (by omega)
            have h2 : X * X * X ≤ 10 * 10 * 10 := Int.mul_le_mul h1 hX10 (by omega) (by omega)
            omega
          have m2 : IntKind.i64.wrap (X * X * X) = (n : Int) := by rw [← hn3, IntKind.wrap_i64]; omega
          have c7 := fun (x y z : Int) (wx : World) (hr : Px (some ⟨tb, 0, none⟩) n s wx) => l7At_any X (some ⟨tb, 0, none⟩) n ct s ⟨hX1, by omega⟩ hn3 x y z wx hr
          clear hn3
          have HB0 : Hid (Bx q5 (v4 X X X none 0 0) w9) := HP9.out.b5
          obtain ⟨ti, hi1, hi2, hi3, hi4⟩ := info2
          have HI1 := hide hi1
          clear hi1
          go_wp2_with fail
          go_loopw [10, 67] (fun i g wr => ∃ (k : Nat) (L : List Int) (af : Option Addr) (cf : Nat), i = .int .i64 k ∧ ¬ Grw L g ∧ L.length = k ∧ k ≤ n ∧ Kept q5 w9 wr ∧ Bx q5 (v4 X X X af L.length cf) wr ∧ wr.ownsRow w9.heap.size 2 1 (.slice af L.length cf) L.length (ints L)) (fun i _ _ => n - (intOf i).toNat)
          case atStart => exact ⟨0, [], none, 0, rfl, (fun ⟨_, _, h⟩ => Value.noConfusion h), rfl, by omega, Kept.refl _ _, HB0.out, ⟨rfl, .inl ⟨rfl, rfl⟩⟩⟩
          case round =>
            obtain ⟨k, L, af, cf, rfl, hg, hLk, hkn, hk, hb5, ho⟩ := hrel
            have HLk := hide hLk
            have HKR := hide hk
            have HB5 := hide hb5
            have HOW := hide ho
            have HG := hide hg
            clear hLk hk hb5 ho HB0 hg
            by_cases hlt : k < n
            · have hk1 : (k : Int) < n := by omega
              go_upto_region 12 with fail
              have HBX6 := hide (HB9.out.kept HKR.out (Ne.symm hq56))
              have HTR := hide (HT9.out.kept HKR.out (Ne.symm hq5t))
              have HZ9 : Hid (w9.heap.size ≤ wr.heap.size) := HKR.out.size
              have HQZ : Hid (q5 < w9.heap.size ∧ q6 < w9.heap.size ∧ tb < w9.heap.size) := ⟨HP9.out.b5.lt, HB9.out.lt, HT9.out.lt (by omega)⟩
              obtain ⟨G, hG⟩ : ∃ G : Nat → Value → Prop, G = (fun j v => match j with | 0 => v = .pointer (some ⟨q5, 3, none⟩) | 1 => v = .slice af L.length cf | 2 => v = vVolume X X X (some ⟨tb, 0, none⟩) n ct | 3 => v = .int .i64 (k : Int) | 4 => v = .int .i64 X | 6 => v = .int .i64 sx | 8 => v = .int .i64 (k : Int) | 9 => v = .int .i64 X | 11 => v = .int .i64 X | 13 => v = .int .i64 sy | 15 => v = .int .i64 (k : Int) | 16 => v = .int .i64 X | 18 => v = .int .i64 X | 23 => v = .pointer (some ⟨q5, 3, none⟩) | 5 => ∃ z : Int, v = .int .i64 z | 7 => ∃ z : Int, v = .int .i64 z | 10 => ∃ z : Int, v = .int .i64 z | 12 => ∃ z : Int, v = .int .i64 z | 14 => ∃ z : Int, v = .int .i64 z | 17 => ∃ z : Int, v = .int .i64 z | 19 => ∃ z : Int, v = .int .i64 z | 20 => ∃ z : Int, v = .int .i64 z | _ => True) := ⟨_, rfl⟩
              have G0 : Hid (∀ v, G 0 v ↔ v = .pointer (some ⟨q5, 3, none⟩)) := fun v => by rw [hG]; exact Iff.rfl
              have G1 : Hid (∀ v, G 1 v ↔ v = .slice af L.length cf) := fun v => by rw [hG]; exact Iff.rfl
              have G2 : Hid (∀ v, G 2 v ↔ v = vVolume X X X (some ⟨tb, 0, none⟩) n ct) := fun v => by rw [hG]; exact Iff.rfl
              have G3 : Hid (∀ v, G 3 v ↔ v = .int .i64 (k : Int)) := fun v => by rw [hG]; exact Iff.rfl
              have G4 : Hid (∀ v, G 4 v ↔ v = .int .i64 X) := fun v => by rw [hG]; exact Iff.rfl
              have G5 : Hid (∀ v, G 5 v ↔ ∃ z : Int, v = .int .i64 z) := fun v => by rw [hG]; exact Iff.rfl
              have G6 : Hid (∀ v, G 6 v ↔ v = .int .i64 sx) := fun v => by rw [hG]; exact Iff.rfl
              have G7 : Hid (∀ v, G 7 v ↔ ∃ z : Int, v = .int .i64 z) := fun v => by rw [hG]; exact Iff.rfl
              have G8 : Hid (∀ v, G 8 v ↔ v = .int .i64 (k : Int)) := fun v => by rw [hG]; exact Iff.rfl
              have G9 : Hid (∀ v, G 9 v ↔ v = .int .i64 X) := fun v => by rw [hG]; exact Iff.rfl
              have G10 : Hid (∀ v, G 10 v ↔ ∃ z : Int, v = .int .i64 z) := fun v => by rw [hG]; exact Iff.rfl
              have G11 : Hid (∀ v, G 11 v ↔ v = .int .i64 X) := fun v => by rw [hG]; exact Iff.rfl
              have G12 : Hid (∀ v, G 12 v ↔ ∃ z : Int, v = .int .i64 z) := fun v => by rw [hG]; exact Iff.rfl
              have G13 : Hid (∀ v, G 13 v ↔ v = .int .i64 sy) := fun v => by rw [hG]; exact Iff.rfl
              have G14 : Hid (∀ v, G 14 v ↔ ∃ z : Int, v = .int .i64 z) := fun v => by rw [hG]; exact Iff.rfl
              have G15 : Hid (∀ v, G 15 v ↔ v = .int .i64 (k : Int)) := fun v => by rw [hG]; exact Iff.rfl
              have G16 : Hid (∀ v, G 16 v ↔ v = .int .i64 X) := fun v => by rw [hG]; exact Iff.rfl
              have G17 : Hid (∀ v, G 17 v ↔ ∃ z : Int, v = .int .i64 z) := fun v => by rw [hG]; exact Iff.rfl
              have G18 : Hid (∀ v, G 18 v ↔ v = .int .i64 X) := fun v => by rw [hG]; exact Iff.rfl
              have G19 : Hid (∀ v, G 19 v ↔ ∃ z : Int, v = .int .i64 z) := fun v => by rw [hG]; exact Iff.rfl
              have G20 : Hid (∀ v, G 20 v ↔ ∃ z : Int, v = .int .i64 z) := fun v => by rw [hG]; exact Iff.rfl
              have G21 : Hid (∀ v, G 21 v) := fun v => by rw [hG]; trivial
              have G22 : Hid (∀ v, G 22 v) := fun v => by rw [hG]; trivial
              have G23 : Hid (∀ v, G 23 v ↔ v = .pointer (some ⟨q5, 3, none⟩)) := fun v => by rw [hG]; exact Iff.rfl
              have G24 : Hid (∀ v, G 24 v) := fun v => by rw [hG]; trivial
              clear hG
              have h24 : ∀ u : Nat → Value, (u 24 = undef) → True := fun _ _ => trivial
              clear h24
              refine region_opsU (p12R w9.heap.size wr L af cf) (p12F w9.heap.size wr L q5 G) (by kernel_rfl) (by kernel_rfl) (by kernel_rfl) ?_ ?_ ?_
              · exact fun _ => ⟨(Below.refl _ _).drew, .inl HOW.out⟩
              · refine ⟨?_, ?_, ?_, ?_, ?_, ?_, ?_, ?_, ?_, ?_, ?_, ?_, ?_, ?_, ?_, ?_, ?_, ?_, ?_, ?_, ?_, ?_, ?_, ?_, ?_, trivial⟩
                · intro u w21 au hau hu hF hp' K hK
                  have h24 : u 24 = undef := (hu.out 24 (by decide) (.inr (by kernel_rfl))).trans (by kernel_rfl)
                  have hB := (hF h24).1
                  have hZ : w9.heap.size ≤ w21.heap.size := Nat.le_trans HZ9.out hB.size
                  have t5 : au.tmps[5]?.getD undef = .pointer (some ⟨q5, 0, none⟩) := by rw [hau.out]; kernel_rfl
                  refine step_plain rfl ?_
                  go_simp
                  exact hK.out (.pointer (some ⟨q5, 3, none⟩)) _ (p12R_up hZ hF (Below.refl _ _) 0 (by omega) (by omega) _) ⟨by rw [upU_same]; exact (G0.out _).2 rfl, fun e => by omega, fun e => by omega, fun e => by omega⟩ (fun j hj hf h => p12F_up (Below.refl _ _) 0 (by omega) (by omega) _ j hj (fun e => by subst e; exact absurd (Eq.trans (Eq.symm (by kernel_rfl)) hf) Bool.false_ne_true) h)
                · intro u w21 au hau hu hF hp' K hK
                  have h24 : u 24 = undef := (hu.out 24 (by decide) (.inr (by kernel_rfl))).trans (by kernel_rfl)
                  have hB := (hF h24).1
                  have hZ : w9.heap.size ≤ w21.heap.size := Nat.le_trans HZ9.out hB.size
                  have h0 : u 0 = .pointer (some ⟨q5, 3, none⟩) := (G0.out _).1 (PreF.get hp' 0 (by kernel_rfl)).1
                  have t45 : au.tmps[45]?.getD undef = u 0 := by rw [hau.out]; kernel_rfl
                  rw [h0] at t45
                  obtain ⟨x3, -⟩ := (HB5.out.below hB HQZ.out.1) 3 _ rfl
                  refine step_plain rfl ?_
                  go_simp
                  exact hK.out (.slice af L.length cf) _ (p12R_up hZ hF (Below.refl _ _) 1 (by omega) (by omega) _) ⟨by rw [upU_same]; exact (G1.out _).2 rfl, fun e => by omega, fun e => by omega, fun e => by omega⟩ (fun j hj hf h => p12F_up (Below.refl _ _) 1 (by omega) (by omega) _ j hj (fun e => by subst e; exact absurd (Eq.trans (Eq.symm (by kernel_rfl)) hf) Bool.false_ne_true) h)
                · intro u w21 au hau hu hF hp' K hK
                  have h24 : u 24 = undef := (hu.out 24 (by decide) (.inr (by kernel_rfl))).trans (by kernel_rfl)
                  have hB := (hF h24).1
                  have hZ : w9.heap.size ≤ w21.heap.size := Nat.le_trans HZ9.out hB.size
                  have t6 : au.tmps[6]?.getD undef = .pointer (some ⟨q6, 0, none⟩) := by rw [hau.out]; kernel_rfl
                  have bx := HBX6.out.below hB HQZ.out.2.1
                  obtain ⟨x0, -⟩ := bx 0 _ rfl
                  obtain ⟨x1, -⟩ := bx 1 _ rfl
                  obtain ⟨x2, -⟩ := bx 2 _ rfl
                  obtain ⟨x3, -⟩ := bx 3 _ rfl
                  clear bx
                  refine step_plain rfl ?_
                  go_simp
                  exact hK.out (vVolume X X X (some ⟨tb, 0, none⟩) n ct) _ (p12R_up hZ hF (Below.refl _ _) 2 (by omega) (by omega) _) ⟨by rw [upU_same]; exact (G2.out _).2 rfl, fun e => by omega, fun e => by omega, fun e => by omega⟩ (fun j hj hf h => p12F_up (Below.refl _ _) 2 (by omega) (by omega) _ j hj (fun e => by subst e; exact absurd (Eq.trans (Eq.symm (by kernel_rfl)) hf) Bool.false_ne_true) h)
                · intro u w21 au hau hu hF hp' K hK
                  have h24 : u 24 = undef := (hu.out 24 (by decide) (.inr (by kernel_rfl))).trans (by kernel_rfl)
                  have hB := (hF h24).1
                  have hZ : w9.heap.size ≤ w21.heap.size := Nat.le_trans HZ9.out hB.size
                  have t10 : au.tmps[10]?.getD undef = .int .i64 (k : Int) := by rw [hau.out]; kernel_rfl
                  refine step_plain rfl ?_
                  go_simp
                  exact hK.out (.int .i64 (k : Int)) _ (p12R_up hZ hF (Below.refl _ _) 3 (by omega) (by omega) _) ⟨by rw [upU_same]; exact (G3.out _).2 rfl, fun e => by omega, fun e => by omega, fun e => by omega⟩ (fun j hj hf h => p12F_up (Below.refl _ _) 3 (by omega) (by omega) _ j hj (fun e => by subst e; exact absurd (Eq.trans (Eq.symm (by kernel_rfl)) hf) Bool.false_ne_true) h)
                · intro u w21 au hau hu hF hp' K hK
                  have h24 : u 24 = undef := (hu.out 24 (by decide) (.inr (by kernel_rfl))).trans (by kernel_rfl)
                  have hB := (hF h24).1
                  have hZ : w9.heap.size ≤ w21.heap.size := Nat.le_trans HZ9.out hB.size
                  have t7 : au.tmps[7]?.getD undef = .int .i64 X := by rw [hau.out]; kernel_rfl
                  refine step_plain rfl ?_
                  go_simp
                  exact hK.out (.int .i64 X) _ (p12R_up hZ hF (Below.refl _ _) 4 (by omega) (by omega) _) ⟨by rw [upU_same]; exact (G4.out _).2 rfl, fun e => by omega, fun e => by omega, fun e => by omega⟩ (fun j hj hf h => p12F_up (Below.refl _ _) 4 (by omega) (by omega) _ j hj (fun e => by subst e; exact absurd (Eq.trans (Eq.symm (by kernel_rfl)) hf) Bool.false_ne_true) h)
                · intro u w21 au hau hu hF hp' K hK
                  have h24 : u 24 = undef := (hu.out 24 (by decide) (.inr (by kernel_rfl))).trans (by kernel_rfl)
                  have hB := (hF h24).1
                  have hZ : w9.heap.size ≤ w21.heap.size := Nat.le_trans HZ9.out hB.size
                  have h3 : u 3 = .int .i64 (k : Int) := (G3.out _).1 (PreF.get hp' 3 (by kernel_rfl)).1
                  have t48 : au.tmps[48]?.getD undef = u 3 := by rw [hau.out]; kernel_rfl
                  rw [h3] at t48
                  have h4 : u 4 = .int .i64 X := (G4.out _).1 (PreF.get hp' 4 (by kernel_rfl)).1
                  have t49 : au.tmps[49]?.getD undef = u 4 := by rw [hau.out]; kernel_rfl
                  rw [h4] at t49
                  refine step_plain rfl ?_
                  go_simp
                  exact hK.out (.int .i64 _) _ (p12R_up hZ hF (Below.refl _ _) 5 (by omega) (by omega) _) ⟨by rw [upU_same]; exact (G5.out _).2 ⟨_, rfl⟩, fun e => by omega, fun e => by omega, fun e => by omega⟩ (fun j hj hf h => p12F_up (Below.refl _ _) 5 (by omega) (by omega) _ j hj (fun e => by subst e; exact absurd (Eq.trans (Eq.symm (by kernel_rfl)) hf) Bool.false_ne_true) h)
                · intro u w21 au hau hu hF hp' K hK
                  have h24 : u 24 = undef := (hu.out 24 (by decide) (.inr (by kernel_rfl))).trans (by kernel_rfl)
                  have hB := (hF h24).1
                  have hZ : w9.heap.size ≤ w21.heap.size := Nat.le_trans HZ9.out hB.size
                  have t8 : au.tmps[8]?.getD undef = .int .i64 sx := by rw [hau.out]; kernel_rfl
                  refine step_plain rfl ?_
                  go_simp
                  exact hK.out (.int .i64 sx) _ (p12R_up hZ hF (Below.refl _ _) 6 (by omega) (by omega) _) ⟨by rw [upU_same]; exact (G6.out _).2 rfl, fun e => by omega, fun e => by omega, fun e => by omega⟩ (fun j hj hf h => p12F_up (Below.refl _ _) 6 (by omega) (by omega) _ j hj (fun e => by subst e; exact absurd (Eq.trans (Eq.symm (by kernel_rfl)) hf) Bool.false_ne_true) h)
                · intro u w21 au hau hu hF hp' K hK
                  have h24 : u 24 = undef := (hu.out 24 (by decide) (.inr (by kernel_rfl))).trans (by kernel_rfl)
                  have hB := (hF h24).1
                  have hZ : w9.heap.size ≤ w21.heap.size := Nat.le_trans HZ9.out hB.size
                  obtain ⟨z5, h5⟩ := (G5.out _).1 (PreF.get hp' 5 (by kernel_rfl)).1
                  have t50 : au.tmps[50]?.getD undef = u 5 := by rw [hau.out]; kernel_rfl
                  rw [h5] at t50
                  have h6 : u 6 = .int .i64 sx := (G6.out _).1 (PreF.get hp' 6 (by kernel_rfl)).1
                  have t51 : au.tmps[51]?.getD undef = u 6 := by rw [hau.out]; kernel_rfl
                  rw [h6] at t51
                  refine step_plain rfl ?_
                  go_simp
                  exact hK.out (.int .i64 _) _ (p12R_up hZ hF (Below.refl _ _) 7 (by omega) (by omega) _) ⟨by rw [upU_same]; exact (G7.out _).2 ⟨_, rfl⟩, fun e => by omega, fun e => by omega, fun e => by omega⟩ (fun j hj hf h => p12F_up (Below.refl _ _) 7 (by omega) (by omega) _ j hj (fun e => by subst e; exact absurd (Eq.trans (Eq.symm (by kernel_rfl)) hf) Bool.false_ne_true) h)
                · intro u w21 au hau hu hF hp' K hK
                  have h24 : u 24 = undef := (hu.out 24 (by decide) (.inr (by kernel_rfl))).trans (by kernel_rfl)
                  have hB := (hF h24).1
                  have hZ : w9.heap.size ≤ w21.heap.size := Nat.le_trans HZ9.out hB.size
                  have t10 : au.tmps[10]?.getD undef = .int .i64 (k : Int) := by rw [hau.out]; kernel_rfl
                  refine step_plain rfl ?_
                  go_simp
                  exact hK.out (.int .i64 (k : Int)) _ (p12R_up hZ hF (Below.refl _ _) 8 (by omega) (by omega) _) ⟨by rw [upU_same]; exact (G8.out _).2 rfl, fun e => by omega, fun e => by omega, fun e => by omega⟩ (fun j hj hf h => p12F_up (Below.refl _ _) 8 (by omega) (by omega) _ j hj (fun e => by subst e; exact absurd (Eq.trans (Eq.symm (by kernel_rfl)) hf) Bool.false_ne_true) h)
                · intro u w21 au hau hu hF hp' K hK
                  have h24 : u 24 = undef := (hu.out 24 (by decide) (.inr (by kernel_rfl))).trans (by kernel_rfl)
                  have hB := (hF h24).1
                  have hZ : w9.heap.size ≤ w21.heap.size := Nat.le_trans HZ9.out hB.size
                  have t7 : au.tmps[7]?.getD undef = .int .i64 X := by rw [hau.out]; kernel_rfl
                  refine step_plain rfl ?_
                  go_simp
                  exact hK.out (.int .i64 X) _ (p12R_up hZ hF (Below.refl _ _) 9 (by omega) (by omega) _) ⟨by rw [upU_same]; exact (G9.out _).2 rfl, fun e => by omega, fun e => by omega, fun e => by omega⟩ (fun j hj hf h => p12F_up (Below.refl _ _) 9 (by omega) (by omega) _ j hj (fun e => by subst e; exact absurd (Eq.trans (Eq.symm (by kernel_rfl)) hf) Bool.false_ne_true) h)
                · intro u w21 au hau hu hF hp' K hK
                  have h24 : u 24 = undef := (hu.out 24 (by decide) (.inr (by kernel_rfl))).trans (by kernel_rfl)
                  have hB := (hF h24).1
                  have hZ : w9.heap.size ≤ w21.heap.size := Nat.le_trans HZ9.out hB.size
                  have h8 : u 8 = .int .i64 (k : Int) := (G8.out _).1 (PreF.get hp' 8 (by kernel_rfl)).1
                  have t53 : au.tmps[53]?.getD undef = u 8 := by rw [hau.out]; kernel_rfl
                  rw [h8] at t53
                  have h9 : u 9 = .int .i64 X := (G9.out _).1 (PreF.get hp' 9 (by kernel_rfl)).1
                  have t54 : au.tmps[54]?.getD undef = u 9 := by rw [hau.out]; kernel_rfl
                  rw [h9] at t54
                  refine step_plain rfl ?_
                  go_simp
                  exact hK.out (.int .i64 _) _ (p12R_up hZ hF (Below.refl _ _) 10 (by omega) (by omega) _) ⟨by rw [upU_same]; exact (G10.out _).2 ⟨_, rfl⟩, fun e => by omega, fun e => by omega, fun e => by omega⟩ (fun j hj hf h => p12F_up (Below.refl _ _) 10 (by omega) (by omega) _ j hj (fun e => by subst e; exact absurd (Eq.trans (Eq.symm (by kernel_rfl)) hf) Bool.false_ne_true) h)
                · intro u w21 au hau hu hF hp' K hK
                  have h24 : u 24 = undef := (hu.out 24 (by decide) (.inr (by kernel_rfl))).trans (by kernel_rfl)
                  have hB := (hF h24).1
                  have hZ : w9.heap.size ≤ w21.heap.size := Nat.le_trans HZ9.out hB.size
                  have t7 : au.tmps[7]?.getD undef = .int .i64 X := by rw [hau.out]; kernel_rfl
                  refine step_plain rfl ?_
                  go_simp
                  exact hK.out (.int .i64 X) _ (p12R_up hZ hF (Below.refl _ _) 11 (by omega) (by omega) _) ⟨by rw [upU_same]; exact (G11.out _).2 rfl, fun e => by omega, fun e => by omega, fun e => by omega⟩ (fun j hj hf h => p12F_up (Below.refl _ _) 11 (by omega) (by omega) _ j hj (fun e => by subst e; exact absurd (Eq.trans (Eq.symm (by kernel_rfl)) hf) Bool.false_ne_true) h)
                · intro u w21 au hau hu hF hp' K hK
                  have h24 : u 24 = undef := (hu.out 24 (by decide) (.inr (by kernel_rfl))).trans (by kernel_rfl)
                  have hB := (hF h24).1
                  have hZ : w9.heap.size ≤ w21.heap.size := Nat.le_trans HZ9.out hB.size
                  obtain ⟨z10, h10⟩ := (G10.out _).1 (PreF.get hp' 10 (by kernel_rfl)).1
                  have t55 : au.tmps[55]?.getD undef = u 10 := by rw [hau.out]; kernel_rfl
                  rw [h10] at t55
                  have h11 : u 11 = .int .i64 X := (G11.out _).1 (PreF.get hp' 11 (by kernel_rfl)).1
                  have t56 : au.tmps[56]?.getD undef = u 11 := by rw [hau.out]; kernel_rfl
                  rw [h11] at t56
                  refine step_plain rfl ?_
                  go_simp
                  exact hK.out (.int .i64 _) _ (p12R_up hZ hF (Below.refl _ _) 12 (by omega) (by omega) _) ⟨by rw [upU_same]; exact (G12.out _).2 ⟨_, rfl⟩, fun e => by omega, fun e => by omega, fun e => by omega⟩ (fun j hj hf h => p12F_up (Below.refl _ _) 12 (by omega) (by omega) _ j hj (fun e => by subst e; exact absurd (Eq.trans (Eq.symm (by kernel_rfl)) hf) Bool.false_ne_true) h)
                · intro u w21 au hau hu hF hp' K hK
                  have h24 : u 24 = undef := (hu.out 24 (by decide) (.inr (by kernel_rfl))).trans (by kernel_rfl)
                  have hB := (hF h24).1
                  have hZ : w9.heap.size ≤ w21.heap.size := Nat.le_trans HZ9.out hB.size
                  have t9 : au.tmps[9]?.getD undef = .int .i64 sy := by rw [hau.out]; kernel_rfl
                  refine step_plain rfl ?_
                  go_simp
                  exact hK.out (.int .i64 sy) _ (p12R_up hZ hF (Below.refl _ _) 13 (by omega) (by omega) _) ⟨by rw [upU_same]; exact (G13.out _).2 rfl, fun e => by omega, fun e => by omega, fun e => by omega⟩ (fun j hj hf h => p12F_up (Below.refl _ _) 13 (by omega) (by omega) _ j hj (fun e => by subst e; exact absurd (Eq.trans (Eq.symm (by kernel_rfl)) hf) Bool.false_ne_true) h)
                · intro u w21 au hau hu hF hp' K hK
                  have h24 : u 24 = undef := (hu.out 24 (by decide) (.inr (by kernel_rfl))).trans (by kernel_rfl)
                  have hB := (hF h24).1
                  have hZ : w9.heap.size ≤ w21.heap.size := Nat.le_trans HZ9.out hB.size
                  obtain ⟨z12, h12⟩ := (G12.out _).1 (PreF.get hp' 12 (by kernel_rfl)).1
                  have t57 : au.tmps[57]?.getD undef = u 12 := by rw [hau.out]; kernel_rfl
                  rw [h12] at t57
                  have h13 : u 13 = .int .i64 sy := (G13.out _).1 (PreF.get hp' 13 (by kernel_rfl)).1
                  have t58 : au.tmps[58]?.getD undef = u 13 := by rw [hau.out]; kernel_rfl
                  rw [h13] at t58
                  refine step_plain rfl ?_
                  go_simp
                  exact hK.out (.int .i64 _) _ (p12R_up hZ hF (Below.refl _ _) 14 (by omega) (by omega) _) ⟨by rw [upU_same]; exact (G14.out _).2 ⟨_, rfl⟩, fun e => by omega, fun e => by omega, fun e => by omega⟩ (fun j hj hf h => p12F_up (Below.refl _ _) 14 (by omega) (by omega) _ j hj (fun e => by subst e; exact absurd (Eq.trans (Eq.symm (by kernel_rfl)) hf) Bool.false_ne_true) h)
                · intro u w21 au hau hu hF hp' K hK
                  have h24 : u 24 = undef := (hu.out 24 (by decide) (.inr (by kernel_rfl))).trans (by kernel_rfl)
                  have hB := (hF h24).1
                  have hZ : w9.heap.size ≤ w21.heap.size := Nat.le_trans HZ9.out hB.size
                  have t10 : au.tmps[10]?.getD undef = .int .i64 (k : Int) := by rw [hau.out]; kernel_rfl
                  refine step_plain rfl ?_
                  go_simp
                  exact hK.out (.int .i64 (k : Int)) _ (p12R_up hZ hF (Below.refl _ _) 15 (by omega) (by omega) _) ⟨by rw [upU_same]; exact (G15.out _).2 rfl, fun e => by omega, fun e => by omega, fun e => by omega⟩ (fun j hj hf h => p12F_up (Below.refl _ _) 15 (by omega) (by omega) _ j hj (fun e => by subst e; exact absurd (Eq.trans (Eq.symm (by kernel_rfl)) hf) Bool.false_ne_true) h)
                · intro u w21 au hau hu hF hp' K hK
                  have h24 : u 24 = undef := (hu.out 24 (by decide) (.inr (by kernel_rfl))).trans (by kernel_rfl)
                  have hB := (hF h24).1
                  have hZ : w9.heap.size ≤ w21.heap.size := Nat.le_trans HZ9.out hB.size
                  have t7 : au.tmps[7]?.getD undef = .int .i64 X := by rw [hau.out]; kernel_rfl
                  refine step_plain rfl ?_
                  go_simp
                  exact hK.out (.int .i64 X) _ (p12R_up hZ hF (Below.refl _ _) 16 (by omega) (by omega) _) ⟨by rw [upU_same]; exact (G16.out _).2 rfl, fun e => by omega, fun e => by omega, fun e => by omega⟩ (fun j hj hf h => p12F_up (Below.refl _ _) 16 (by omega) (by omega) _ j hj (fun e => by subst e; exact absurd (Eq.trans (Eq.symm (by kernel_rfl)) hf) Bool.false_ne_true) h)
                · intro u w21 au hau hu hF hp' K hK
                  have h24 : u 24 = undef := (hu.out 24 (by decide) (.inr (by kernel_rfl))).trans (by kernel_rfl)
                  have hB := (hF h24).1
                  have hZ : w9.heap.size ≤ w21.heap.size := Nat.le_trans HZ9.out hB.size
                  have h15 : u 15 = .int .i64 (k : Int) := (G15.out _).1 (PreF.get hp' 15 (by kernel_rfl)).1
                  have t60 : au.tmps[60]?.getD undef = u 15 := by rw [hau.out]; kernel_rfl
                  rw [h15] at t60
                  have h16 : u 16 = .int .i64 X := (G16.out _).1 (PreF.get hp' 16 (by kernel_rfl)).1
                  have t61 : au.tmps[61]?.getD undef = u 16 := by rw [hau.out]; kernel_rfl
                  rw [h16] at t61
                  refine step_plain rfl ?_
                  go_simp
                  exact hK.out (.int .i64 _) _ (p12R_up hZ hF (Below.refl _ _) 17 (by omega) (by omega) _) ⟨by rw [upU_same]; exact (G17.out _).2 ⟨_, rfl⟩, fun e => by omega, fun e => by omega, fun e => by omega⟩ (fun j hj hf h => p12F_up (Below.refl _ _) 17 (by omega) (by omega) _ j hj (fun e => by subst e; exact absurd (Eq.trans (Eq.symm (by kernel_rfl)) hf) Bool.false_ne_true) h)
                · intro u w21 au hau hu hF hp' K hK
                  have h24 : u 24 = undef := (hu.out 24 (by decide) (.inr (by kernel_rfl))).trans (by kernel_rfl)
                  have hB := (hF h24).1
                  have hZ : w9.heap.size ≤ w21.heap.size := Nat.le_trans HZ9.out hB.size
                  have t7 : au.tmps[7]?.getD undef = .int .i64 X := by rw [hau.out]; kernel_rfl
                  refine step_plain rfl ?_
                  go_simp
                  exact hK.out (.int .i64 X) _ (p12R_up hZ hF (Below.refl _ _) 18 (by omega) (by omega) _) ⟨by rw [upU_same]; exact (G18.out _).2 rfl, fun e => by omega, fun e => by omega, fun e => by omega⟩ (fun j hj hf h => p12F_up (Below.refl _ _) 18 (by omega) (by omega) _ j hj (fun e => by subst e; exact absurd (Eq.trans (Eq.symm (by kernel_rfl)) hf) Bool.false_ne_true) h)
                · intro u w21 au hau hu hF hp' K hK
                  have h24 : u 24 = undef := (hu.out 24 (by decide) (.inr (by kernel_rfl))).trans (by kernel_rfl)
                  have hB := (hF h24).1
                  have hZ : w9.heap.size ≤ w21.heap.size := Nat.le_trans HZ9.out hB.size
                  obtain ⟨z17, h17⟩ := (G17.out _).1 (PreF.get hp' 17 (by kernel_rfl)).1
                  have t62 : au.tmps[62]?.getD undef = u 17 := by rw [hau.out]; kernel_rfl
                  rw [h17] at t62
                  have h18 : u 18 = .int .i64 X := (G18.out _).1 (PreF.get hp' 18 (by kernel_rfl)).1
                  have t63 : au.tmps[63]?.getD undef = u 18 := by rw [hau.out]; kernel_rfl
                  rw [h18] at t63
                  refine step_plain rfl ?_
                  go_simp
                  exact hK.out (.int .i64 _) _ (p12R_up hZ hF (Below.refl _ _) 19 (by omega) (by omega) _) ⟨by rw [upU_same]; exact (G19.out _).2 ⟨_, rfl⟩, fun e => by omega, fun e => by omega, fun e => by omega⟩ (fun j hj hf h => p12F_up (Below.refl _ _) 19 (by omega) (by omega) _ j hj (fun e => by subst e; exact absurd (Eq.trans (Eq.symm (by kernel_rfl)) hf) Bool.false_ne_true) h)
                · intro u w21 au hau hu hF hp' K hK
                  have h24 : u 24 = undef := (hu.out 24 (by decide) (.inr (by kernel_rfl))).trans (by kernel_rfl)
                  have hB := (hF h24).1
                  have hZ : w9.heap.size ≤ w21.heap.size := Nat.le_trans HZ9.out hB.size
                  have h2 : u 2 = vVolume X X X (some ⟨tb, 0, none⟩) n ct := (G2.out _).1 (PreF.get hp' 2 (by kernel_rfl)).1
                  have t47 : au.tmps[47]?.getD undef = u 2 := by rw [hau.out]; kernel_rfl
                  rw [h2] at t47
                  obtain ⟨z7, h7⟩ := (G7.out _).1 (PreF.get hp' 7 (by kernel_rfl)).1
                  have t52 : au.tmps[52]?.getD undef = u 7 := by rw [hau.out]; kernel_rfl
                  rw [h7] at t52
                  obtain ⟨z14, h14⟩ := (G14.out _).1 (PreF.get hp' 14 (by kernel_rfl)).1
                  have t59 : au.tmps[59]?.getD undef = u 14 := by rw [hau.out]; kernel_rfl
                  rw [h14] at t59
                  obtain ⟨z19, h19⟩ := (G19.out _).1 (PreF.get hp' 19 (by kernel_rfl)).1
                  have t64 : au.tmps[64]?.getD undef = u 19 := by rw [hau.out]; kernel_rfl
                  rw [h19] at t64
                  have c := c7 z7 z14 z19 w21 (HTR.out.below hB HQZ.out.2.2).px
                  refine step_plain rfl ?_
                  go_simp
                  refine c.mono ?_
                  rintro e w22 ⟨rfl, hb9⟩
                  exact hK.out (.int .i64 _) _ (p12R_up hZ hF hb9 20 (by omega) (by omega) _) ⟨by rw [upU_same]; exact (G20.out _).2 ⟨_, rfl⟩, fun e => by omega, fun e => by omega, fun e => by omega⟩ (fun j hj hf h => p12F_up hb9 20 (by omega) (by omega) _ j hj (fun e => by subst e; exact absurd (Eq.trans (Eq.symm (by kernel_rfl)) hf) Bool.false_ne_true) h)
                · intro u w21 au hau hu hF hp' K hK
                  have h24 : u 24 = undef := (hu.out 24 (by decide) (.inr (by kernel_rfl))).trans (by kernel_rfl)
                  have hB := (hF h24).1
                  have hZ : w9.heap.size ≤ w21.heap.size := Nat.le_trans HZ9.out hB.size
                  obtain ⟨z20, h20⟩ := (G20.out _).1 (PreF.get hp' 20 (by kernel_rfl)).1
                  have t65 : au.tmps[65]?.getD undef = u 20 := by rw [hau.out]; kernel_rfl
                  rw [h20] at t65
                  refine step_plain rfl ?_
                  go_simp
                  have hb9 := bnew w21 (.cells #[.int .i64 z20] 2)
                  exact hK.out (.slice (some ⟨w21.heap.size, 0, none⟩) 1 1) _ (p12R_up hZ hF hb9 21 (by omega) (by omega) _) ⟨G21.out _, fun _ => .inr (.inr ⟨z20, w21.heap.size, upU_same _ _ _, hZ, heap_alloc_new w21 _⟩), fun e => by omega, fun e => by omega⟩ (fun j hj hf h => p12F_up hb9 21 (by omega) (by omega) _ j hj (fun e => by subst e; exact absurd (Eq.trans (Eq.symm (by kernel_rfl)) hf) Bool.false_ne_true) h)
                · intro u w21 au hau hu hF hp' K hK
                  have h24 : u 24 = undef := (hu.out 24 (by decide) (.inr (by kernel_rfl))).trans (by kernel_rfl)
                  have hB := (hF h24).1
                  have hZ : w9.heap.size ≤ w21.heap.size := Nat.le_trans HZ9.out hB.size
                  have hg22 : ¬ Grw L (u 22) := by rw [hu.out 22 (by decide) (.inl rfl)]; exact HG.out
                  have hown := (hF h24).2.resolve_right hg22
                  have h1 : u 1 = .slice af L.length cf := (G1.out _).1 (PreF.get hp' 1 (by kernel_rfl)).1
                  have t46 : au.tmps[46]?.getD undef = u 1 := by rw [hau.out]; kernel_rfl
                  rw [h1] at t46
                  obtain ⟨y, b, h21, hBb, hnew⟩ := (((PreF.get hp' 21 (by kernel_rfl)).2.1 rfl).resolve_left (fun h => h h24)).resolve_left hg22
                  have t66 : au.tmps[66]?.getD undef = u 21 := by rw [hau.out]; kernel_rfl
                  rw [h21] at t66
                  have HOWN := hide hown
                  have HNEW := hide hnew
                  have HBW := hide hB
                  clear hown hnew hB
                  refine step_append_lies _ (by rfl) _ _ _ (by rfl) w9.heap.size 2 ti _ 1 8 Tryd.underlying24 HI1.out hi2 hi3 hi4 rfl (by omega) (.slice af L.length cf) L.length (ints L) (by rw [eval_tmp]; exact t46) HOWN.out ⟨b, 0, none⟩ 1 1 [.int .i64 y] (by rw [eval_tmp]; exact t66) (by rfl) (World.news_of_block (cs := #[.int .i64 y]) (t := 2) (fr := (0, 0)) HNEW.out) (by simp [Value.oneCell']) (by omega) (by have := HLk.out; unfold maxLen; omega) (by have := HLk.out; omega) hZ w21.heap.size rfl ?_
                  intro gg cap1 w22 hown1 hgrow hat hlt1
                  have hbg : Below w9.heap.size w21 w22 := (Below.refl _ _).grown hgrow hZ (fun q' hq' => (HOWN.out.lt q' hq').1)
                  have hgv : Grw L (.slice (some ⟨gg, 0, none⟩) (L.length + 1) cap1) := ⟨_, _, rfl⟩
                  exact hK.out (.slice (some ⟨gg, 0, none⟩) (L.length + 1) cap1) _ (fun _ => ⟨HBW.out.trans hbg, .inr (by rw [upU_same]; exact hgv)⟩) ⟨G22.out _, fun e => by omega, fun _ => .inr ⟨y, some ⟨gg, 0, none⟩, cap1, upU_same _ _ _, by rw [ints_append]; exact hown1⟩, fun e => by omega⟩ (fun j hj hf h => p12F_gr hgv j hj (fun e => by subst e; exact absurd (Eq.trans (Eq.symm (by kernel_rfl)) hf) Bool.false_ne_true) h)
                · intro u w21 au hau hu hF hp' K hK
                  have h24 : u 24 = undef := (hu.out 24 (by decide) (.inr (by kernel_rfl))).trans (by kernel_rfl)
                  have hB := (hF h24).1
                  have hZ : w9.heap.size ≤ w21.heap.size := Nat.le_trans HZ9.out hB.size
                  have t5 : au.tmps[5]?.getD undef = .pointer (some ⟨q5, 0, none⟩) := by rw [hau.out]; kernel_rfl
                  refine step_plain rfl ?_
                  go_simp
                  exact hK.out (.pointer (some ⟨q5, 3, none⟩)) _ (p12R_up hZ hF (Below.refl _ _) 23 (by omega) (by omega) _) ⟨by rw [upU_same]; exact (G23.out _).2 rfl, fun e => by omega, fun e => by omega, fun e => by omega⟩ (fun j hj hf h => p12F_up (Below.refl _ _) 23 (by omega) (by omega) _ j hj (fun e => by subst e; exact absurd (Eq.trans (Eq.symm (by kernel_rfl)) hf) Bool.false_ne_true) h)
                · intro u w21 au hau hu hF hp' K hK
                  have h24 : u 24 = undef := (hu.out 24 (by decide) (.inl rfl)).trans (by kernel_rfl)
                  have hB := (hF h24).1
                  have hZ : w9.heap.size ≤ w21.heap.size := Nat.le_trans HZ9.out hB.size
                  obtain ⟨y, a', c', h22, hown⟩ := ((PreF.get hp' 22 (by kernel_rfl)).2.2.1 rfl).resolve_left (fun h => h h24)
                  have t67 : au.tmps[67]?.getD undef = u 22 := by rw [hau.out]; kernel_rfl
                  rw [h22] at t67
                  have h23 : u 23 = .pointer (some ⟨q5, 3, none⟩) := (G23.out _).1 (PreF.get hp' 23 (by kernel_rfl)).1
                  have t68 : au.tmps[68]?.getD undef = u 23 := by rw [hau.out]; kernel_rfl
                  rw [h23] at t68
                  obtain ⟨x3, y3⟩ := (HB5.out.below hB HQZ.out.1) 3 _ rfl
                  have HOWN := hide hown
                  clear hown
                  refine step_plain rfl ?_
                  go_simp
                  exact hK.out (.bool true) _ (fun h0 => by rw [upU_same] at h0; simp [undef] at h0) ⟨G24.out _, fun e => by omega, fun e => by omega, fun _ => ⟨w21, y, a', c', rfl, hB, HOWN.out, (upU_other _ _ (by omega)).trans h22⟩⟩ (fun j hj _ h => p12F_st (by simp [undef]) j hj h)
              · intro u w30 hF hall
                obtain ⟨w1, y, a', c', hw30, hbw, hown, h22⟩ := (hall 24 (by decide)).2.2.2 rfl
                have hq := HQZ.out.1
                have HE : Hid (Kept q5 w9 w30 ∧ Bx q5 (v4 X X X a' (L ++ [y]).length c') w30 ∧ w30.ownsRow w9.heap.size 2 1 (.slice a' (L ++ [y]).length c') (L ++ [y]).length (ints (L ++ [y]))) := by
                  have el : (L ++ [y]).length = L.length + 1 := by simp
                  rw [hw30, el]
                  exact ⟨(HKR.out.belowB hbw (Nat.le_refl _)).setCell rfl _, (HB5.out.below hbw hq).setIn (k := 3) (by simp) _, owns_farC hown hq _⟩
                have HG9 : Hid (¬ Grw (L ++ [y]) (.slice a' (L.length + 1) c')) := fun ⟨_, _, e⟩ => by simp at e
                have HL9 : Hid ((L ++ [y]).length = k + 1) := by show _ = _; rw [← HLk.out]; simp
                clear hF hall hw30 hbw hown hq HBX6 HTR HKR HB5 HOW HG HLk
                simp only [rgPut, Act.put, h22]
                clear h22
                go_simp
                go_wp2_with fail
                exact ⟨⟨k + 1, L ++ [y], a', c', by simp, HG9.out, HL9.out, by omega, HE.out⟩, by simp [intOf] <;> omega⟩
            · obtain rfl : k = n := by omega
              go_wp2_with fail
              go_meet
              exact ⟨X, X, X, L, af, cf, by have := HLk.out; omega, HP9.out.grown HPC.out HKR.out HB5.out HOW.out⟩
      case rest =>
        obtain ⟨V0, V1, V2, L, af, cf, hL, hps⟩ := hcut
        obtain ⟨w9, hwc⟩ : ∃ w9, w9 = wc := ⟨_, rfl⟩
        rw [← hwc] at hps
        rw [← hwc]
        clear hwc HP6 HB6 HTQ HNE HQ6 hbq
        have HP9 := hide hps
        have HL := hide hL
        clear hps hL
        have c1 := once_any p a len cap w9 HP9.out.ck.1 40 (by omega) (by omega)
        go_wp2_with fail
        refine c1.mono ?_
        rintro e w10 ⟨b, rfl, hc, hk⟩
        have HP10 := hide (HP9.out.step HPC.out hc hk)
        clear c1 hc hk HP9
        go_upto_if 72 with fail
        go_cut [] (fun wc => ∃ U0 U1 U2 M ag cg V0 V1 V2 L af cf, M.length ≤ 1000 ∧ L.length ≤ 1000 ∧ PS p a len cap w q4 q5 U0 U1 U2 M ag cg V0 V1 V2 L af cf wc)
        case first =>
          cases b
          · go_wp2_with fail
            go_meet
            exact ⟨U0, U1, U2, M, ag, cg, V0, V1, V2, L, af, cf, HM.out, HL.out, HP10.out⟩
          · have c1 := below_any p a len cap w10 HP10.out.ck.1 2 (by omega) (by omega)
            go_wp2_with fail
            refine c1.mono ?_
            rintro e w11 ⟨x, rfl, x0, x1, hc, hk⟩
            obtain ⟨Y, hY⟩ : ∃ Y : Nat, (Y : Int) = 6 + x := ⟨(6 + x).toNat, by omega⟩
            have u1 : IntKind.i64.wrap (6 + x) = (Y : Int) := by rw [IntKind.wrap_i64]; omega
            have hY3 : Y ≤ 10 := by omega
            have HP11 := hide (HP10.out.step HPC.out hc hk)
            clear c1 hc hk HP10 hY x0 x1
            have c1 := l10DrawCube_any p a len cap Y hY3 w11 HP11.out.ck.1 (Nat.lt_of_lt_of_le hp HP11.out.ck.2.size) (HAB.out.imp id fun h b off e => Nat.lt_of_lt_of_le (h b off e) HP11.out.ck.2.size)
            go_wp2_with fail
            refine c1.mono ?_
            rintro e w12 ⟨Y0, Y1, Y2, K, ak, ck, rfl, hK, ho, hc, hk⟩
            have HP12 := hide (HP11.out.step HPC.out hc hk)
            have HP13 := hide (HP12.out.set5 HPC.out (Y0 := Y0) (Y1 := Y1) (Y2 := Y2) (K := K) (ck := ck) ((Ly.of ho).mono (fun b hb => by have := HP11.out.b5.lt; have := HP11.out.b4.lt; have := HP11.out.r2.lt; omega)))
            have HE := hide (HP13.out.same HPC.out)
            have HK := hide hK
            obtain ⟨x0, y0⟩ := HP12.out.b5 0 _ rfl
            obtain ⟨x1, y1⟩ := HP12.out.b5 1 _ rfl
            obtain ⟨x2, y2⟩ := HP12.out.b5 2 _ rfl
            obtain ⟨x3, y3⟩ := HP12.out.b5 3 _ rfl
            have hq45 : q5 ≠ q4 := by have := HPC.out.h5; omega
            have hq54 : q4 ≠ q5 := hq45.symm
            obtain ⟨g0, d0⟩ := HP12.out.b4 0 _ rfl
            obtain ⟨g1, d1⟩ := HP12.out.b4 1 _ rfl
            obtain ⟨g2, d2⟩ := HP12.out.b4 2 _ rfl
            obtain ⟨g3, d3⟩ := HP12.out.b4 3 _ rfl
            clear c1 ho hc hk hK HP11 HP12 HP13 u1 hY3
            go_wp2_with fail
            go_meet
            exact ⟨Y0, Y1, Y2, K, ak, ck, Y0, Y1, Y2, K, ak, ck, HK.out, HK.out, HE.out⟩
        case rest =>
          obtain ⟨U0, U1, U2, M, ag, cg, V0, V1, V2, L, af, cf, hM, hL, hps⟩ := hcut
          obtain ⟨w11, hwc⟩ : ∃ w11, w11 = wc := ⟨_, rfl⟩
          rw [← hwc] at hps
          rw [← hwc]
          clear hwc HP10
          have HP := hide hps
          have HLM := hide (And.intro hL hM)
          clear hps hL hM HL HM
          obtain ⟨x0, y0⟩ := HP.out.b5 0 _ rfl
          obtain ⟨x1, y1⟩ := HP.out.b5 1 _ rfl
          obtain ⟨x2, y2⟩ := HP.out.b5 2 _ rfl
          obtain ⟨x3, y3⟩ := HP.out.b5 3 _ rfl
          obtain ⟨g0, d0⟩ := HP.out.b4 0 _ rfl
          obtain ⟨g1, d1⟩ := HP.out.b4 1 _ rfl
          obtain ⟨g2, d2⟩ := HP.out.b4 2 _ rfl
          obtain ⟨g3, d3⟩ := HP.out.b4 3 _ rfl
          obtain ⟨e0, k0⟩ := HP.out.r1 0 _ rfl
          obtain ⟨e1, k1⟩ := HP.out.r1 1 _ rfl
          obtain ⟨e2, k2⟩ := HP.out.r1 2 _ rfl
          obtain ⟨e3, k3⟩ := HP.out.r1 3 _ rfl
          obtain ⟨i0, j0⟩ := HP.out.r2 0 _ rfl
          obtain ⟨i1, j1⟩ := HP.out.r2 1 _ rfl
          obtain ⟨i2, j2⟩ := HP.out.r2 2 _ rfl
          obtain ⟨i3, j3⟩ := HP.out.r2 3 _ rfl
          generalize hR2 : w.heap.size + 1 = R2 at *
          have HZ := hide HPC.out.h4
          have n1 : w.heap.size ≠ q4 := by have := HZ.out; omega
          have n2 : w.heap.size ≠ q5 := by have := HZ.out; have := HPC.out.h5; omega
          have n3 : R2 ≠ q4 := by have := HZ.out; omega
          have n4 : R2 ≠ q5 := by have := HZ.out; have := HPC.out.h5; omega
          have n5 : R2 ≠ w.heap.size := by omega
          have n6 : w.heap.size ≠ R2 := by omega
          have HR2 := hide hR2
          clear hR2
          go_upto_region 17 with fail
          go_region
          all_goals
            go_wp2_with fail
            refine bodyPost_ret (v := .tuple #[vVolume V0 V1 V2 af L.length cf, vVolume U0 U1 U2 ag M.length cg]) (by simp [results, Tryd.results35, go_sem, e0, e1, e2, e3, i0, i1, i2, i3]) rfl ⟨V0, V1, V2, L, af, cf, U0, U1, U2, M, ag, cg, rfl, HLM.out.1, HLM.out.2, ?_⟩
            clear x0 x1 x2 x3 y0 y1 y2 y3 g0 g1 g2 g3 d0 d1 d2 d3 e0 e1 e2 e3 k0 k1 k2 k3 i0 i1 i2 i3 j0 j1 j2 j3
            have hR := HR2.out
            with_reducible exact HP.out.fin12 HPC.out hR

end Go.Proofs.YtkgkdhocmglklaaDoor
