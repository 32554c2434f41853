/- Cubes that are turned: the program. -/
import Derived.Test.YtkgkdhocmglklaaDoorTsr
import Derived.Test.YtkgkdhocmglklaaDoorRgo
import Derived.Deep.RegionHeld
import Derived.Deep.RegionHeld3
import Derived.Deep.CutBlock
import Derived.Deep.DeepCutAuto
import Derived.BigRegion
namespace Go.Proofs.YtkgkdhocmglklaaDoor
open Go.RowKit

/-- three numbers -/
def q3 (a b c : Int) : Nat → Int
  | 0 => a
  | 1 => b
  | _ => c

theorem scaled3 (x y z s : Int) (hx : -1000 ≤ x ∧ x ≤ 1000) (hy : -1000 ≤ y ∧ y ≤ 1000) (hz : -1000 ≤ z ∧ z ≤ 1000) (hs : -1000 ≤ s ∧ s ≤ 1000) (w : World) :
    Calls Tryd.prog 27 #[v3v x y z, .int .i64 s] w fun e w' => e = .returned (v3v (x * s) (y * s) (z * s)) ∧ Below w.heap.size w w' :=
  vscaled_any (q3 x y z) s (fun k hk => by
    have m0 := mulB hx.1 hx.2 hs.1 hs.2
    have m1 := mulB hy.1 hy.2 hs.1 hs.2
    have m2 := mulB hz.1 hz.2 hs.1 hs.2
    match k, hk with
    | 0, _ => show _ ≤ x * s ∧ x * s ≤ _; omega
    | 1, _ => show _ ≤ y * s ∧ y * s ≤ _; omega
    | 2, _ => show _ ≤ z * s ∧ z * s ≤ _; omega) w
theorem plus3 (x y z x' y' z' : Int) (hx : -1000000 ≤ x ∧ x ≤ 1000000) (hy : -1000000 ≤ y ∧ y ≤ 1000000) (hz : -1000000 ≤ z ∧ z ≤ 1000000) (hx' : -1000000 ≤ x' ∧ x' ≤ 1000000) (hy' : -1000000 ≤ y' ∧ y' ≤ 1000000) (hz' : -1000000 ≤ z' ∧ z' ≤ 1000000) (w : World) :
    Calls Tryd.prog 28 #[v3v x y z, v3v x' y' z'] w fun e w' => e = .returned (v3v (x + x') (y + y') (z + z')) ∧ Below w.heap.size w w' :=
  vplus_any (q3 x y z) (q3 x' y' z') (fun k hk => by
    match k, hk with
    | 0, _ => show _ ≤ x + x' ∧ x + x' ≤ _; omega
    | 1, _ => show _ ≤ y + y' ∧ y + y' ≤ _; omega
    | 2, _ => show _ ≤ z + z' ∧ z + z' ≤ _; omega) w
theorem times3 (m : Nat → Int) (hm : ∀ k, k < 9 → -1 ≤ m k ∧ m k ≤ 1) (x y z : Int) (hx : -1000 ≤ x ∧ x ≤ 1000) (hy : -1000 ≤ y ∧ y ≤ 1000) (hz : -1000 ≤ z ∧ z ≤ 1000) (w : World) :
    Calls Tryd.prog 29 #[mat9 m, v3v x y z] w fun e w' => e = .returned (v3v (mv m 0 x y z) (mv m 1 x y z) (mv m 2 x y z)) ∧ Below w.heap.size w w' :=
  times_any m (q3 x y z) (fun i hi => by
    have h0 := hm (3 * i) (by omega)
    have h1 := hm (3 * i + 1) (by omega)
    have h2 := hm (3 * i + 2) (by omega)
    have m0 := mulB (A := 1) h0.1 h0.2 hx.1 hx.2
    have m1 := mulB (A := 1) h1.1 h1.2 hy.1 hy.2
    have m2 := mulB (A := 1) h2.1 h2.2 hz.1 hz.2
    simp only [q3, timF]
    omega) w

/-- what region 8 leaves -/
def r8G (X r s t R S T E x y z : Int) (o : Option Addr) (n cap k : Nat) : Nat → Value → Prop
  | 0, v => v = vVolume X X X o n cap
  | 1, v => v = .int .i64 (k : Int)
  | 2, v => v = v3v r s t
  | 3, v => v = v3v R S T
  | 4, v => v = v3v (X - 1) (X - 1) (X - 1)
  | 5, v => v = v3v E E E
  | 6, v => v = v3v x y z
  | _, _ => True
/-- what region 9 leaves -/
def r9G (m : Nat → Int) (X x y z m0 m1 m2 s0 s1 s2 : Int) : Nat → Value → Prop
  | 0, v => v = mat9 m
  | 1, v => v = v3v x y z
  | 2, v => v = v3v m0 m1 m2
  | 3, v => v = v3v (X - 1) (X - 1) (X - 1)
  | 4, v => v = v3v s0 s1 s2
  | _, _ => True

/-- what region 10 leaves -/
def r10G (X : Int) (o : Option Addr) (n cap C B W G : Nat) (s0 s1 s2 P0 P1 P2 F : Int) : Nat → Value → Prop
  | 0, v => v = .pointer (some ⟨C, 3, none⟩)
  | 1, v => v = .slice (some ⟨B, 0, none⟩) n n
  | 2, v => v = vVolume X X X o n cap
  | 3, v => v = .pointer (some ⟨W, 0, none⟩)
  | 4, v => v = .int .i64 s0
  | 5, v => v = .int .i64 P0
  | 6, v => v = .pointer (some ⟨W, 1, none⟩)
  | 7, v => v = .int .i64 s1
  | 8, v => v = .int .i64 P1
  | 9, v => v = .pointer (some ⟨W, 2, none⟩)
  | 10, v => v = .int .i64 s2
  | 11, v => v = .int .i64 P2
  | 12, v => v = v3v P0 P1 P2
  | 13, v => v = .int .i64 (G : Int)
  | 14, v => v = .int .i64 F
  | 15, v => v = .pointer (some ⟨B, G, none⟩)
  | _, _ => True
theorem updN_twice {h g : Nat → Int} {G : Nat} {F : Int} (hh : ∀ q, updN h G F q = g q) (q : Nat) : updN g G F q = g q := by
  have h0 := hh q
  unfold updN at h0 ⊢
  by_cases e : q = G
  · rw [if_pos e] at h0 ⊢; exact h0
  · rw [if_neg e]
/-- values, and what the last operation leaves -/
def lastF (G : Nat → Value → Prop) (st : Nat) (D : World → Prop) (j : Nat) (u : Nat → Value) (w : World) : Prop := G j (u j) ∧ (j = st → D w)
theorem lastF_val {G : Nat → Value → Prop} {st : Nat} {D : World → Prop} {j : Nat} {u : Nat → Value} {w : World} (h : G j (u j)) (h2 : j ≠ st) : lastF G st D j u w := ⟨h, fun e => absurd e h2⟩
theorem lastF_up {G : Nat → Value → Prop} {st : Nat} {D : World → Prop} {u : Nat → Value} {w w' : World} (i : Nat) (v : Value) (j : Nat) (hj : j ≠ i) (h2 : j ≠ st) (h : lastF G st D j u w) : lastF G st D j (upU u i v) w' := ⟨by rw [upU_other u v hj]; exact h.1, fun e => absurd e h2⟩

set_option maxRecDepth 100000 in
set_option maxHeartbeats 8000000 in
theorem implTurnVolume_any (X Y Z : Int) (o : Option Addr) (n cap : Nat) (f : Nat → Int) (hl : n ≤ 1048576) (a b c d : Int) (w : World) (h : Px o n f w) :
    Calls Tryd.prog 8 #[vVolume X Y Z o n cap, tv a b c d] w fun e w' => VoR (tvX X Y Z n f a b c d) (tvX X Y Z n f a b c d) (tvX X Y Z n f a b c d) (tvN X Y Z n f a b c d) (tvs (tg a b c d X) f n) w e w' := by
  have HS0 := hide ((((St.start w).box [.int .i64 X, .int .i64 Y, .int .i64 Z, .slice o n cap] 26).box' [.int .i64 a, .int .i64 b, .int .i64 c, .int .i64 d] 28 (b := w.heap.size + 1) (by simp)).box' [.int .i64 0, .int .i64 0, .int .i64 0, .slice none 0 0] 26 (b := w.heap.size + 2) (by simp))
  have cC := isCube_any X Y Z o n cap f hl _ (h.below HS0.out.below)
  have cT := fun w' => implTurnOk_any a b c d w'
  have HP := hide h
  clear h
  unfold tvX tvN tvB
  cases hq : cubB X Y Z n f
  · rw [hq] at cC
    simp only [Bool.false_and, Bool.false_eq_true, if_false]
    clear hq HP cT
    go_enter Tryd.func8, Tryd.ntmps8
    go_wp2_with fail
    refine cC.mono ?_
    rintro e w1 ⟨rfl, hb⟩
    have HS1 := hide (HS0.out.next hb)
    obtain ⟨i0, i1, i2, i3⟩ := HS1.out.im4 0 rfl
    obtain ⟨e0, e1, e2, e3⟩ := HS1.out.fr4 0 rfl
    have HE := hide (St.fill (L1 := []) (St.fill (L1 := []) (St.fill (L1 := []) (St.fill (L1 := []) HS1.out 0 (.int .i64 0)) 1 (.int .i64 0)) 2 (.int .i64 0)) 3 (.slice none 0 0))
    clear hb HS0 HS1 cC
    go_wp2_with fail
    exact bodyPost_ret (v := vVolume 0 0 0 none 0 0) (by simp [results, Tryd.results8, go_sem, i0, i1, i2, i3]) rfl ⟨none, 0, w1.heap.size, rfl, .inl rfl, .inl rfl, HE.out.below⟩
  rw [hq] at cC
  cases hp : tkB a b c d
  · simp only [hp] at cT
    simp only [Bool.and_false, Bool.false_eq_true, if_false]
    clear hq hp HP
    go_enter Tryd.func8, Tryd.ntmps8
    go_wp2_with fail
    refine cC.mono ?_
    rintro e w1 ⟨rfl, hb⟩
    have HS1 := hide (HS0.out.next hb)
    obtain ⟨i0, i1, i2, i3⟩ := HS1.out.im4 1 rfl
    clear hb HS0 cC
    go_wp2_with fail
    refine (cT _).mono ?_
    rintro e w2 ⟨rfl, hb⟩
    have HS2 := hide (HS1.out.next hb)
    clear i0 i1 i2 i3 HS1 hb cT
    obtain ⟨i0, i1, i2, i3⟩ := HS2.out.im4 0 rfl
    obtain ⟨e0, e1, e2, e3⟩ := HS2.out.fr4 0 rfl
    have HE := hide (St.fill (L1 := []) (St.fill (L1 := []) (St.fill (L1 := []) (St.fill (L1 := []) HS2.out 0 (.int .i64 0)) 1 (.int .i64 0)) 2 (.int .i64 0)) 3 (.slice none 0 0))
    clear HS2
    go_wp2_with fail
    exact bodyPost_ret (v := vVolume 0 0 0 none 0 0) (by simp [results, Tryd.results8, go_sem, i0, i1, i2, i3]) rfl ⟨none, 0, w2.heap.size, rfl, .inl rfl, .inl rfl, HE.out.below⟩
  simp only [hp] at cT
  simp only [Bool.and_self, if_true]
  obtain ⟨rfl, rfl, hX, hn, hn2⟩ := cubB_parts hq
  have HT := hide hp
  have HNn := hide hn
  clear hq hp hn
  have hmk := fun w' => make_px n hl w'
  go_enter Tryd.func8, Tryd.ntmps8
  go_wp2_with fail
  refine cC.mono ?_
  rintro e w1 ⟨rfl, hb⟩
  have HS1 := hide (HS0.out.next hb)
  obtain ⟨i0, i1, i2, i3⟩ := HS1.out.im4 1 rfl
  clear hb HS0 cC
  go_wp2_with fail
  refine (cT _).mono ?_
  rintro e w2 ⟨rfl, hb⟩
  have HS2 := hide (HS1.out.next hb)
  clear i0 i1 i2 i3 HS1 hb cT
  obtain ⟨i0, i1, i2, i3⟩ := HS2.out.im4 2 rfl
  have hlB := HS2.out.below.size
  have HA := HS2.out.box [.int .i64 0, .int .i64 0, .int .i64 0, .slice none 0 0] 26
  have HM := HS2.out.own (bnew w2 (.cells (madeCells #[.int .i64 0] n) 2)) (row_new n w2).v (.inr (Nat.le_refl _))
  have HAM := HA.own (bnew _ (.cells (madeCells #[.int .i64 0] n) 2)) (row_new n _).v (.inr (Nat.le_refl _))
  have HMA := HM.box [.int .i64 0, .int .i64 0, .int .i64 0, .slice none 0 0] 26
  obtain ⟨HA0, HA1, HA2, HA3⟩ := HA.im4 3 rfl
  obtain ⟨HM0, HM1, HM2, HM3⟩ := HM.im4 2 rfl
  obtain ⟨HAM0, HAM1, HAM2, HAM3⟩ := HAM.im4 3 rfl
  obtain ⟨HMA0, HMA1, HMA2, HMA3⟩ := HMA.im4 3 rfl
  go_upto_region 3 with fail
  go_cut [5] (fun sl wc => ∃ C B, sl = .pointer (some ⟨C, 0, none⟩) ∧ w.heap.size ≤ B ∧ St w [(C, [.int .i64 X, .int .i64 X, .int .i64 X, .slice (some ⟨B, 0, none⟩) n n]), (w.heap.size + 2, [.int .i64 0, .int .i64 0, .int .i64 0, .slice none 0 0]), (w.heap.size + 1, [.int .i64 a, .int .i64 b, .int .i64 c, .int .i64 d]), (w.heap.size, [.int .i64 X, .int .i64 X, .int .i64 X, .slice o n cap])] [(some ⟨B, 0, none⟩, B, n, fun _ => .int .i64 0)] wc)
  case first =>
    go_region
    all_goals
      go_wp2_with fail
      go_meet
      first
      | exact ⟨w2.heap.size + 1, w2.heap.size, rfl, hlB, (HM.box' [.int .i64 X, .int .i64 X, .int .i64 X, .slice (some ⟨w2.heap.size, 0, none⟩) n n] 26 (b := w2.heap.size + 1) (by simp)).drew⟩
      | exact ⟨w2.heap.size, w2.heap.size + 1, rfl, by omega, by
          have q := (HS2.out.box [.int .i64 X, .int .i64 X, .int .i64 X, .slice (some ⟨w2.heap.size + 1, 0, none⟩) n n] 26).own (bnew _ (.cells (madeCells #[.int .i64 0] n) 2)) (row_new n _).v (.inr (Nat.le_refl _))
          have e : (w2.alloc (.cells [.int .i64 X, .int .i64 X, .int .i64 X, .slice (some ⟨w2.heap.size + 1, 0, none⟩) n n].toArray 26)).heap.size = w2.heap.size + 1 := by simp
          rw [e] at q
          exact q.drew⟩
  case rest =>
    obtain ⟨C, B, rfl, hB, hs⟩ := hcut
    have HS3 := hide hs
    clear hs HA HM HAM HMA HA0 HA1 HA2 HA3 HM0 HM1 HM2 HM3 HAM0 HAM1 HAM2 HAM3 HMA0 HMA1 HMA2 HMA3 HS2 i0 i1 i2 i3 hmk hlB
    have cM := fun w' => matrixOfTurn_any a b c d HT.out w'
    have uX : IntKind.i64.wrap (X - 1) = X - 1 := by rw [IntKind.wrap_i64]; omega
    obtain ⟨a0, a1, a2, a3⟩ := HS3.out.im4 2 rfl
    obtain ⟨v0, -, -, -⟩ := HS3.out.im4 3 rfl
    go_upto_region 4 with fail
    refine region_ops (fun w' => Below wc.heap.size wc w') (tvF wc w.heap.size a b c d X) (by kernel_rfl) (by kernel_rfl) (by kernel_rfl) (Below.refl _ _).drew ?_ ?_
    · refine ⟨?_, ?_, ?_, ?_, ?_, ?_, ?_, ?_, ?_, ?_, ?_, ?_, ?_, ?_, ?_, ?_, trivial⟩
      · intro u wr au hau hu hF hp' K hK
        have t3 : au.tmps[3]?.getD undef = .pointer (some ⟨w.heap.size + 1, 0, none⟩) := by rw [hau.out]; kernel_rfl
        have x0 := cellU hF a0
        have x1 := cellU hF a1
        have x2 := cellU hF a2
        have x3 := cellU hF a3
        refine step_plain rfl ?_
        go_simp
        exact hK.out (tv a b c d) _ hF (tvF_val (j := 0) (upU_same _ _ _) (by decide)) (fun j hj _ h => tvF_up (Below.refl _ _) 0 _ j hj (fun _ e => by cases e) (fun _ e => by cases e) h)
      · intro u wr au hau hu hF hp' K hK
        have h0 : u 0 = tv a b c d := hp'.1.1
        have t32 : au.tmps[32]?.getD undef = u 0 := by rw [hau.out]; kernel_rfl
        rw [h0] at t32
        refine step_plain rfl ?_
        go_simp
        refine (cM wr).mono ?_
        rintro e w' ⟨rfl, hb⟩
        exact hK.out (mat9 (mtx a b c d)) _ (bnext hF (Nat.le_refl _) hb) (tvF_val (j := 1) (upU_same _ _ _) (by decide)) (fun j hj _ h => tvF_up hb 1 _ j hj (fun _ e => by cases e) (fun _ e => by cases e) h)
      · intro u wr au hau hu hF hp' K hK
        have t2 : au.tmps[2]?.getD undef = .pointer (some ⟨w.heap.size, 0, none⟩) := by rw [hau.out]; kernel_rfl
        refine step_plain rfl ?_
        go_simp
        exact hK.out (.pointer (some ⟨w.heap.size, 0, none⟩)) _ hF (tvF_val (j := 2) (upU_same _ _ _) (by decide)) (fun j hj _ h => tvF_up (Below.refl _ _) 2 _ j hj (fun _ e => by cases e) (fun _ e => by cases e) h)
      · intro u wr au hau hu hF hp' K hK
        have h0 : u 2 = .pointer (some ⟨w.heap.size, 0, none⟩) := hp'.1.1
        have t34 : au.tmps[34]?.getD undef = u 2 := by rw [hau.out]; kernel_rfl
        rw [h0] at t34
        have x0 := cellU hF v0
        refine step_plain rfl ?_
        go_simp
        exact hK.out (.int .i64 X) _ hF (tvF_val (j := 3) (upU_same _ _ _) (by decide)) (fun j hj _ h => tvF_up (Below.refl _ _) 3 _ j hj (fun _ e => by cases e) (fun _ e => by cases e) h)
      · intro u wr au hau hu hF hp' K hK
        have h0 : u 3 = .int .i64 X := hp'.1.1
        have t35 : au.tmps[35]?.getD undef = u 3 := by rw [hau.out]; kernel_rfl
        rw [h0] at t35
        refine step_plain rfl ?_
        go_simp
        exact hK.out (.int .i64 (X - 1)) _ hF (tvF_val (j := 4) (upU_same _ _ _) (by decide)) (fun j hj _ h => tvF_up (Below.refl _ _) 4 _ j hj (fun _ e => by cases e) (fun _ e => by cases e) h)
      · intro u wr au hau hu hF hp' K hK
        have t2 : au.tmps[2]?.getD undef = .pointer (some ⟨w.heap.size, 0, none⟩) := by rw [hau.out]; kernel_rfl
        refine step_plain rfl ?_
        go_simp
        exact hK.out (.pointer (some ⟨w.heap.size, 0, none⟩)) _ hF (tvF_val (j := 5) (upU_same _ _ _) (by decide)) (fun j hj _ h => tvF_up (Below.refl _ _) 5 _ j hj (fun _ e => by cases e) (fun _ e => by cases e) h)
      · intro u wr au hau hu hF hp' K hK
        have h0 : u 5 = .pointer (some ⟨w.heap.size, 0, none⟩) := hp'.1.1
        have t37 : au.tmps[37]?.getD undef = u 5 := by rw [hau.out]; kernel_rfl
        rw [h0] at t37
        have x0 := cellU hF v0
        refine step_plain rfl ?_
        go_simp
        exact hK.out (.int .i64 X) _ hF (tvF_val (j := 6) (upU_same _ _ _) (by decide)) (fun j hj _ h => tvF_up (Below.refl _ _) 6 _ j hj (fun _ e => by cases e) (fun _ e => by cases e) h)
      · intro u wr au hau hu hF hp' K hK
        have h0 : u 6 = .int .i64 X := hp'.1.1
        have t38 : au.tmps[38]?.getD undef = u 6 := by rw [hau.out]; kernel_rfl
        rw [h0] at t38
        refine step_plain rfl ?_
        go_simp
        exact hK.out (.int .i64 (X - 1)) _ hF (tvF_val (j := 7) (upU_same _ _ _) (by decide)) (fun j hj _ h => tvF_up (Below.refl _ _) 7 _ j hj (fun _ e => by cases e) (fun _ e => by cases e) h)
      · intro u wr au hau hu hF hp' K hK
        have t2 : au.tmps[2]?.getD undef = .pointer (some ⟨w.heap.size, 0, none⟩) := by rw [hau.out]; kernel_rfl
        refine step_plain rfl ?_
        go_simp
        exact hK.out (.pointer (some ⟨w.heap.size, 0, none⟩)) _ hF (tvF_val (j := 8) (upU_same _ _ _) (by decide)) (fun j hj _ h => tvF_up (Below.refl _ _) 8 _ j hj (fun _ e => by cases e) (fun _ e => by cases e) h)
      · intro u wr au hau hu hF hp' K hK
        have h0 : u 8 = .pointer (some ⟨w.heap.size, 0, none⟩) := hp'.1.1
        have t40 : au.tmps[40]?.getD undef = u 8 := by rw [hau.out]; kernel_rfl
        rw [h0] at t40
        have x0 := cellU hF v0
        refine step_plain rfl ?_
        go_simp
        exact hK.out (.int .i64 X) _ hF (tvF_val (j := 9) (upU_same _ _ _) (by decide)) (fun j hj _ h => tvF_up (Below.refl _ _) 9 _ j hj (fun _ e => by cases e) (fun _ e => by cases e) h)
      · intro u wr au hau hu hF hp' K hK
        have h0 : u 9 = .int .i64 X := hp'.1.1
        have t41 : au.tmps[41]?.getD undef = u 9 := by rw [hau.out]; kernel_rfl
        rw [h0] at t41
        refine step_plain rfl ?_
        go_simp
        exact hK.out (.int .i64 (X - 1)) _ hF (tvF_val (j := 10) (upU_same _ _ _) (by decide)) (fun j hj _ h => tvF_up (Below.refl _ _) 10 _ j hj (fun _ e => by cases e) (fun _ e => by cases e) h)
      · intro u wr au hau hu hF hp' K hK
        have h4 : u 4 = .int .i64 (X - 1) := hp'.1.1
        have h7 : u 7 = .int .i64 (X - 1) := hp'.2.1.1
        have h10 : u 10 = .int .i64 (X - 1) := hp'.2.2.1.1
        have t36 : au.tmps[36]?.getD undef = u 4 := by rw [hau.out]; kernel_rfl
        have t39 : au.tmps[39]?.getD undef = u 7 := by rw [hau.out]; kernel_rfl
        have t42 : au.tmps[42]?.getD undef = u 10 := by rw [hau.out]; kernel_rfl
        rw [h4] at t36
        rw [h7] at t39
        rw [h10] at t42
        refine step_plain rfl ?_
        go_simp
        exact hK.out (v3v (X - 1) (X - 1) (X - 1)) _ hF (tvF_val (j := 11) (upU_same _ _ _) (by decide)) (fun j hj _ h => tvF_up (Below.refl _ _) 11 _ j hj (fun _ e => by cases e) (fun _ e => by cases e) h)
      · intro u wr au hau hu hF hp' K hK
        have hb := bnew wr (.cells #[.int .i64 0, .int .i64 0, .int .i64 0, .int .i64 0, .int .i64 0, .int .i64 0, .int .i64 0, .int .i64 0, .int .i64 0] 54)
        have HX := hide (BxZ.new [.int .i64 0, .int .i64 0, .int .i64 0, .int .i64 0, .int .i64 0, .int .i64 0, .int .i64 0, .int .i64 0, .int .i64 0] 54 wr)
        refine step_plain rfl ?_
        go_simp
        exact hK.out (.pointer (some ⟨wr.heap.size, 0, none⟩)) _ (hF.alloc hF.size _) ⟨trivial, (fun _ => ⟨_, _, upU_same _ _ _, hF.size, rfl, HX.out⟩), (fun e => absurd e (by decide)), (fun e => absurd e (by decide)), (fun e => absurd e (by decide))⟩ (fun j hj hf h => tvF_up hb 12 _ j hj (fun e _ => by subst e; exact absurd (Eq.trans (Eq.symm (by kernel_rfl)) hf) Bool.false_ne_true) (fun _ e => by cases e) h)
      · intro u wr au hau hu hF hp' K hK
        have hb := bnew wr (.cells #[.int .i64 0, .int .i64 0, .int .i64 0] 57)
        have HX := hide (BxZ.new [.int .i64 0, .int .i64 0, .int .i64 0] 57 wr)
        refine step_plain rfl ?_
        go_simp
        exact hK.out (.pointer (some ⟨wr.heap.size, 0, none⟩)) _ (hF.alloc hF.size _) ⟨trivial, (fun e => absurd e (by decide)), (fun _ => ⟨_, _, upU_same _ _ _, hF.size, rfl, HX.out⟩), (fun e => absurd e (by decide)), (fun e => absurd e (by decide))⟩ (fun j hj hf h => tvF_up hb 13 _ j hj (fun _ e => by cases e) (fun e _ => by subst e; exact absurd (Eq.trans (Eq.symm (by kernel_rfl)) hf) Bool.false_ne_true) h)
      · intro u wr au hau hu hF hp' K hK
        obtain ⟨M, vs, hM1, hM2, hM3, hM4⟩ := (PreF.get hp' 12 (by kernel_rfl)).2.1 rfl
        obtain ⟨P, ps, hP1, hP2, hP3, hP4⟩ := (PreF.get hp' 13 (by kernel_rfl)).2.2.1 rfl
        have h1 : u 1 = mat9 (mtx a b c d) := (PreF.get hp' 1 (by kernel_rfl)).1
        have t6 : au.tmps[6]?.getD undef = u 12 := by rw [hau.out]; kernel_rfl
        have t33 : au.tmps[33]?.getD undef = u 1 := by rw [hau.out]; kernel_rfl
        rw [hM1] at t6
        rw [h1] at t33
        have hne : P ≠ M := hP4.ne hM4 (by omega)
        have hth : wr.there M 0 9 := by have := hM4.there; rwa [hM3] at this
        refine step_plain rfl ?_
        refine wp_store_mid _ _ _ rfl M 0 (mL (mtx a b c d)).toArray ((eval_tmp au 6).trans t6) ((eval_tmp au 33).trans t33) hth (by kernel_rfl) (by kernel_rfl) ?_
        exact hK.out (.int .i64 0) _ (belowSets hM2 _ _ hF) ⟨trivial, (fun e => absurd e (by decide)), (fun e => absurd e (by decide)), (fun _ => ⟨M, (upU_other u _ (by decide)).trans hM1, hM4.sets _ hM3⟩), (fun e => absurd e (by decide))⟩ (fun j hj _ h => tvF_put hM1 hP1 14 (.inl rfl) _ (fun vs' h' => ⟨mL (mtx a b c d), (hM3.symm.trans (hM4.len h')), h'.sets (mL (mtx a b c d)) ((h'.len hM4).trans hM3), fun e => absurd e (by decide)⟩) (fun vs' h' => ⟨vs', rfl, h'.same (heapSets hne _ _ _), fun _ => rfl⟩) j hj h)
      · intro u wr au hau hu hF hp' K hK
        obtain ⟨M, vs, hM1, hM2, hM3, hM4⟩ := (PreF.get hp' 12 (by kernel_rfl)).2.1 rfl
        obtain ⟨P, ps, hP1, hP2, hP3, hP4⟩ := (PreF.get hp' 13 (by kernel_rfl)).2.2.1 rfl
        have h1 : u 11 = v3v (X - 1) (X - 1) (X - 1) := (PreF.get hp' 11 (by kernel_rfl)).1
        have t7 : au.tmps[7]?.getD undef = u 13 := by rw [hau.out]; kernel_rfl
        have t43 : au.tmps[43]?.getD undef = u 11 := by rw [hau.out]; kernel_rfl
        rw [hP1] at t7
        rw [h1] at t43
        have hne : M ≠ P := hM4.ne hP4 (by omega)
        have hth : wr.there P 0 3 := by have := hP4.there; rwa [hP3] at this
        refine step_plain rfl ?_
        refine wp_store_mid _ _ _ rfl P 0 #[.int .i64 (X - 1), .int .i64 (X - 1), .int .i64 (X - 1)] ((eval_tmp au 7).trans t7) ((eval_tmp au 43).trans t43) hth (by kernel_rfl) (by kernel_rfl) ?_
        exact hK.out (.int .i64 0) _ (belowSets hP2 _ _ hF) ⟨trivial, (fun e => absurd e (by decide)), (fun e => absurd e (by decide)), (fun e => absurd e (by decide)), (fun _ => ⟨P, (upU_other u _ (by decide)).trans hP1, hP4.sets _ hP3⟩)⟩ (fun j hj _ h => tvF_put hM1 hP1 15 (.inr rfl) _ (fun vs' h' => ⟨vs', rfl, h'.same (heapSets hne _ _ _), fun _ => rfl⟩) (fun vs' h' => ⟨[.int .i64 (X - 1), .int .i64 (X - 1), .int .i64 (X - 1)], (hP3.symm.trans (hP4.len h')), h'.sets _ ((h'.len hP4).trans hP3), fun e => absurd e (by decide)⟩) j hj h)
    · intro u wd hF hall
      obtain ⟨M, hM1, hM2⟩ := (hall 14 (by decide)).2.2.2.1 rfl
      obtain ⟨P, hP1, hP2⟩ := (hall 15 (by decide)).2.2.2.2 rfl
      obtain ⟨M', vs, hm1, hm2, -, -⟩ := (hall 12 (by decide)).2.1 rfl
      obtain ⟨P', ps, hp1, hp2, -, -⟩ := (hall 13 (by decide)).2.2.1 rfl
      rw [hM1] at hm1
      rw [hP1] at hp1
      cases hm1
      cases hp1
      have hMP : P ≠ M := hP2.ne hM2 (by simp)
      have hS4 := HS3.out.next hF
      have hMn : M ∉ blocks _ _ := fun h => by have := (HS3.out.lt M h).2; omega
      have hPn : P ∉ blocks _ _ := fun h => by have := (HS3.out.lt P h).2; omega
      have hw3 := HS3.out.below.size
      have hS5 := hS4.take hM2 hMn (by omega)
      have hPn2 : P ∉ blocks ((M, mL (mtx a b c d)) :: _) _ := fun h => by
        rcases List.mem_cons.1 h with h | h
        · exact hMP h
        · exact hPn h
      have hS6 := hS5.take hP2 hPn2 (by omega)
      have HS6 := hide hS6
      simp only [rgPut, Act.put, hM1, hP1]
      go_simp
      clear hall hS4 hS5 hS6 hM2 hP2 hM1 hP1 hMn hPn hPn2 HS3 hF
      clear a0 a1 a2 a3 v0 cM uX hm2 hp2 hw3 vs ps hMP
      obtain ⟨r0, r1, r2, r3⟩ := HS6.out.im4 5 rfl
      go_wp2_with fail
      clear r0 r1 r2 r3
      go_loopw [47] (fun i wr => ∃ k : Nat, k ≤ n ∧ i = .int .i64 k ∧ St w [(P, [.int .i64 (X - 1), .int .i64 (X - 1), .int .i64 (X - 1)]), (M, mL (mtx a b c d)), (C, [.int .i64 X, .int .i64 X, .int .i64 X, .slice (some ⟨B, 0, none⟩) n n]), (w.heap.size + 2, [.int .i64 0, .int .i64 0, .int .i64 0, .slice none 0 0]), (w.heap.size + 1, [.int .i64 a, .int .i64 b, .int .i64 c, .int .i64 d]), (w.heap.size, [.int .i64 X, .int .i64 X, .int .i64 X, .slice o n cap])] [(some ⟨B, 0, none⟩, B, n, fun q => .int .i64 (tvs (tg a b c d X) f k q))] wr) (fun i _ => n - (intOf i).toNat)
      case atStart => exact ⟨0, by omega, rfl, HS6.out⟩
      case round =>
        obtain ⟨k, hk, rfl, hs⟩ := hrel
        have HS := hide hs
        clear hs HS6
        by_cases hlt : k < n
        · have hkX : (k : Int) < X * X * X := by have := HNn.out; omega
          obtain ⟨x0, y0, z0⟩ := kxyz hX.1 hkX
          have cW := fun w' => whereIn_any X X X o n cap hX hX k (by omega) w'
          have HK0 : Hid ((k : Int) % X = kx X k ∧ (k : Int) / X % X = ky X k ∧ (k : Int) / X / X = kz X k) := ⟨rfl, rfl, rfl⟩
          simp only [HK0.out.1, HK0.out.2.1, HK0.out.2.2] at cW
          generalize hr : kx X k = r at *
          generalize hs : ky X k = s at *
          generalize ht : kz X k = t at *
          have cS := fun w' => scaled3 r s t 2 (by omega) (by omega) (by omega) (by omega) w'
          have cN := fun w' => scaled3 (X - 1) (X - 1) (X - 1) (-1) (by omega) (by omega) (by omega) (by omega) w'
          have cP := fun w' => plus3 (r * 2) (s * 2) (t * 2) ((X - 1) * -1) ((X - 1) * -1) ((X - 1) * -1) (by omega) (by omega) (by omega) (by omega) (by omega) (by omega) w'
          obtain ⟨R, hR⟩ : ∃ R, r * 2 = R := ⟨_, rfl⟩
          obtain ⟨S, hS⟩ : ∃ R, s * 2 = R := ⟨_, rfl⟩
          obtain ⟨T, hT⟩ : ∃ R, t * 2 = R := ⟨_, rfl⟩
          obtain ⟨E, hE⟩ : ∃ R, (X - 1) * -1 = R := ⟨_, rfl⟩
          rw [hR, hS, hT] at cS
          rw [hE] at cN
          rw [hR, hS, hT, hE] at cP
          obtain ⟨x, hx⟩ : ∃ R', R + E = R' := ⟨_, rfl⟩
          obtain ⟨y, hy⟩ : ∃ R', S + E = R' := ⟨_, rfl⟩
          obtain ⟨z, hz⟩ : ∃ R', T + E = R' := ⟨_, rfl⟩
          rw [hx, hy, hz] at cP
          have HXYZ : Hid (x = 2 * r - X + 1 ∧ y = 2 * s - X + 1 ∧ z = 2 * t - X + 1) := ⟨by omega, by omega, by omega⟩
          clear hR hS hT hE hx hy hz
          obtain ⟨b9, o9, rfl, zk⟩ := (HP.out.below HS.out.below).at hlt
          have hltk : (k : Int) < (n : Int) := by omega
          obtain ⟨v0, v1, v2, v3⟩ := HS.out.im4 5 rfl
          obtain ⟨p0, p1, p2⟩ := HS.out.im3 0 rfl
          go_upto_region 8 with fail
          refine region_ops (fun w' => Below wr.heap.size wr w') (oneF (r8G X r s t R S T E x y z (some ⟨b9, o9, none⟩) n cap k) 7 8 [.int .i64 (x), .int .i64 (y), .int .i64 (z)] wr) (by kernel_rfl) (by kernel_rfl) (by kernel_rfl) (Below.refl _ _).drew ?_ ?_
          · refine ⟨?_, ?_, ?_, ?_, ?_, ?_, ?_, ?_, ?_, trivial⟩
            · intro u wz au hau hu hF hp' K hK
              have t2 : au.tmps[2]?.getD undef = .pointer (some ⟨w.heap.size, 0, none⟩) := by rw [hau.out]; kernel_rfl
              have x0 := cellU hF v0
              have x1 := cellU hF v1
              have x2 := cellU hF v2
              have x3 := cellU hF v3
              refine step_plain rfl ?_
              go_simp
              exact hK.out (vVolume X X X (some ⟨b9, o9, none⟩) n cap) _ hF (oneF_val (j := 0) (upU_same _ _ _) (by decide) (by decide)) (fun j hj _ h => oneF_up (Below.refl _ _) 0 _ j hj (fun _ e => by cases e) h)
            · intro u wz au hau hu hF hp' K hK
              have t8 : au.tmps[8]?.getD undef = .int .i64 (k : Int) := by rw [hau.out]; kernel_rfl
              refine step_plain rfl ?_
              go_simp
              exact hK.out (.int .i64 (k : Int)) _ hF (oneF_val (j := 1) (upU_same _ _ _) (by decide) (by decide)) (fun j hj _ h => oneF_up (Below.refl _ _) 1 _ j hj (fun _ e => by cases e) h)
            · intro u wz au hau hu hF hp' K hK
              have h0 : u 0 = vVolume X X X (some ⟨b9, o9, none⟩) n cap := (PreF.get hp' 0 (by kernel_rfl)).1
              have t52 : au.tmps[52]?.getD undef = u 0 := by rw [hau.out]; kernel_rfl
              rw [h0] at t52
              have h1 : u 1 = .int .i64 (k : Int) := (PreF.get hp' 1 (by kernel_rfl)).1
              have t53 : au.tmps[53]?.getD undef = u 1 := by rw [hau.out]; kernel_rfl
              rw [h1] at t53
              refine step_plain rfl ?_
              go_simp
              refine (cW wz).mono ?_
              rintro e w' ⟨rfl, hb⟩
              exact hK.out (v3v r s t) _ (bnext hF (Nat.le_refl _) hb) (oneF_val (j := 2) (upU_same _ _ _) (by decide) (by decide)) (fun j hj _ h => oneF_up hb 2 _ j hj (fun _ e => by cases e) h)
            · intro u wz au hau hu hF hp' K hK
              have h2 : u 2 = v3v r s t := (PreF.get hp' 2 (by kernel_rfl)).1
              have t54 : au.tmps[54]?.getD undef = u 2 := by rw [hau.out]; kernel_rfl
              rw [h2] at t54
              refine step_plain rfl ?_
              go_simp
              refine (cS wz).mono ?_
              rintro e w' ⟨rfl, hb⟩
              exact hK.out (v3v R S T) _ (bnext hF (Nat.le_refl _) hb) (oneF_val (j := 3) (upU_same _ _ _) (by decide) (by decide)) (fun j hj _ h => oneF_up hb 3 _ j hj (fun _ e => by cases e) h)
            · intro u wz au hau hu hF hp' K hK
              have t7 : au.tmps[7]?.getD undef = .pointer (some ⟨P, 0, none⟩) := by rw [hau.out]; kernel_rfl
              have x0 := cellU hF p0
              have x1 := cellU hF p1
              have x2 := cellU hF p2
              refine step_plain rfl ?_
              go_simp
              exact hK.out (v3v (X - 1) (X - 1) (X - 1)) _ hF (oneF_val (j := 4) (upU_same _ _ _) (by decide) (by decide)) (fun j hj _ h => oneF_up (Below.refl _ _) 4 _ j hj (fun _ e => by cases e) h)
            · intro u wz au hau hu hF hp' K hK
              have h4 : u 4 = v3v (X - 1) (X - 1) (X - 1) := (PreF.get hp' 4 (by kernel_rfl)).1
              have t56 : au.tmps[56]?.getD undef = u 4 := by rw [hau.out]; kernel_rfl
              rw [h4] at t56
              refine step_plain rfl ?_
              go_simp
              refine (cN wz).mono ?_
              rintro e w' ⟨rfl, hb⟩
              exact hK.out (v3v (E) (E) (E)) _ (bnext hF (Nat.le_refl _) hb) (oneF_val (j := 5) (upU_same _ _ _) (by decide) (by decide)) (fun j hj _ h => oneF_up hb 5 _ j hj (fun _ e => by cases e) h)
            · intro u wz au hau hu hF hp' K hK
              have h3 : u 3 = v3v R S T := (PreF.get hp' 3 (by kernel_rfl)).1
              have t55 : au.tmps[55]?.getD undef = u 3 := by rw [hau.out]; kernel_rfl
              rw [h3] at t55
              have h5 : u 5 = v3v (E) (E) (E) := (PreF.get hp' 5 (by kernel_rfl)).1
              have t57 : au.tmps[57]?.getD undef = u 5 := by rw [hau.out]; kernel_rfl
              rw [h5] at t57
              refine step_plain rfl ?_
              go_simp
              refine (cP wz).mono ?_
              rintro e w' ⟨rfl, hb⟩
              exact hK.out (v3v (x) (y) (z)) _ (bnext hF (Nat.le_refl _) hb) (oneF_val (j := 6) (upU_same _ _ _) (by decide) (by decide)) (fun j hj _ h => oneF_up hb 6 _ j hj (fun _ e => by cases e) h)
            · intro u wz au hau hu hF hp' K hK
              have hb := bnew wz (.cells #[.int .i64 0, .int .i64 0, .int .i64 0] 57)
              have HX := hide (BxZ.new [.int .i64 0, .int .i64 0, .int .i64 0] 57 wz)
              refine step_plain rfl ?_
              go_simp
              exact hK.out (.pointer (some ⟨wz.heap.size, 0, none⟩)) _ (hF.alloc hF.size _) ⟨trivial, (fun _ => ⟨_, [.int .i64 0, .int .i64 0, .int .i64 0], upU_same _ _ _, hF.size, rfl, HX.out⟩), (fun e => absurd e (by decide))⟩ (fun j hj hf h => oneF_up hb 7 _ j hj (fun e _ => by subst e; exact absurd (Eq.trans (Eq.symm (by kernel_rfl)) hf) Bool.false_ne_true) h)
            · intro u wz au hau hu hF hp' K hK
              obtain ⟨U, ts, hT1, hT2, hT3, hT4⟩ := (PreF.get hp' 7 (by kernel_rfl)).2.1 rfl
              have h1 : u 6 = v3v (x) (y) (z) := (PreF.get hp' 6 (by kernel_rfl)).1
              have t10 : au.tmps[10]?.getD undef = u 7 := by rw [hau.out]; kernel_rfl
              have t58 : au.tmps[58]?.getD undef = u 6 := by rw [hau.out]; kernel_rfl
              rw [hT1] at t10
              rw [h1] at t58
              have hth : wz.there U 0 3 := by have := hT4.there; rwa [hT3] at this
              refine step_plain rfl ?_
              refine wp_store_mid _ _ _ rfl U 0 [.int .i64 (x), .int .i64 (y), .int .i64 (z)].toArray ((eval_tmp au 10).trans t10) ((eval_tmp au 58).trans t58) hth (by kernel_rfl) (by kernel_rfl) ?_
              exact hK.out (.int .i64 0) _ (belowSets hT2 _ _ hF) (oneF_done hT1 hT3 hT4 (by decide) _ trivial) (fun j hj _ h => oneF_put hT1 hT3 hT4 (by decide) _ j hj h)
          · intro u we hF hall
            obtain ⟨U, ts, hT1, hT2, -, -⟩ := (hall 7 (by decide)).2.1 rfl
            obtain ⟨U', hT1', hT4⟩ := (hall 8 (by decide)).2.2 rfl
            rw [hT1] at hT1'
            cases hT1'
            have hS4 := HS.out.next hF
            have hTn : U ∉ blocks _ _ := fun h => by have := (HS.out.lt U h).2; omega
            have hTw := Nat.le_trans HS.out.below.size hT2
            have HS8 := hide (hS4.take hT4 hTn hTw)
            have zk8 := cellU hF zk
            simp only [rgPut, Act.put, hT1]
            go_simp
            clear hall hS4 hT1 hT4 hTn HS hF zk v0 v1 v2 v3 p0 p1 p2 cW cS cN cP
            obtain ⟨hx, hy, hz⟩ := HXYZ.out
            have cT := fun w' => times3 (mtx a b c d) (fun k hk => mtx_all _ (tk_mem HT.out) ⟨k, hk⟩) x y z (by omega) (by omega) (by omega) w'
            have i0 := mv_in HT.out (i := 0) (by omega) (x := x) (y := y) (z := z) (B := 31) (by omega) (by omega) (by omega)
            have i1 := mv_in HT.out (i := 1) (by omega) (x := x) (y := y) (z := z) (B := 31) (by omega) (by omega) (by omega)
            have i2 := mv_in HT.out (i := 2) (by omega) (x := x) (y := y) (z := z) (B := 31) (by omega) (by omega) (by omega)
            obtain ⟨m0, hm0⟩ : ∃ q, mv (mtx a b c d) 0 x y z = q := ⟨_, rfl⟩
            obtain ⟨m1, hm1⟩ : ∃ q, mv (mtx a b c d) 1 x y z = q := ⟨_, rfl⟩
            obtain ⟨m2, hm2⟩ : ∃ q, mv (mtx a b c d) 2 x y z = q := ⟨_, rfl⟩
            rw [hm0, hm1, hm2] at cT
            rw [hm0] at i0
            rw [hm1] at i1
            rw [hm2] at i2
            have cQ := fun w' => plus3 m0 m1 m2 (X - 1) (X - 1) (X - 1) (by omega) (by omega) (by omega) (by omega) (by omega) (by omega) w'
            obtain ⟨s0, hs0⟩ : ∃ q, m0 + (X - 1) = q := ⟨_, rfl⟩
            obtain ⟨s1, hs1⟩ : ∃ q, m1 + (X - 1) = q := ⟨_, rfl⟩
            obtain ⟨s2, hs2⟩ : ∃ q, m2 + (X - 1) = q := ⟨_, rfl⟩
            rw [hs0, hs1, hs2] at cQ
            have HM9 : Hid (mv (mtx a b c d) 0 x y z = m0 ∧ mv (mtx a b c d) 1 x y z = m1 ∧ mv (mtx a b c d) 2 x y z = m2 ∧ m0 + (X - 1) = s0 ∧ m1 + (X - 1) = s1 ∧ m2 + (X - 1) = s2) := ⟨hm0, hm1, hm2, hs0, hs1, hs2⟩
            have g0 := HS8.out.cell 2 rfl 0 rfl
            have g1 := HS8.out.cell 2 rfl 1 rfl
            have g2 := HS8.out.cell 2 rfl 2 rfl
            have g3 := HS8.out.cell 2 rfl 3 rfl
            have g4 := HS8.out.cell 2 rfl 4 rfl
            have g5 := HS8.out.cell 2 rfl 5 rfl
            have g6 := HS8.out.cell 2 rfl 6 rfl
            have g7 := HS8.out.cell 2 rfl 7 rfl
            have g8 := HS8.out.cell 2 rfl 8 rfl
            obtain ⟨f0, f1, f2⟩ := HS8.out.im3 0 rfl
            obtain ⟨p0, p1, p2⟩ := HS8.out.im3 1 rfl
            clear hx hy hz hm0 hm1 hm2 hs0 hs1 hs2 i0 i1 i2
            go_upto_region 9 with fail
            refine region_ops (fun w' => Below we.heap.size we w') (oneF (r9G (mtx a b c d) X x y z m0 m1 m2 s0 s1 s2) 5 6 [.int .i64 (s0), .int .i64 (s1), .int .i64 (s2)] we) (by kernel_rfl) (by kernel_rfl) (by kernel_rfl) (Below.refl _ _).drew ?_ ?_
            · refine ⟨?_, ?_, ?_, ?_, ?_, ?_, ?_, trivial⟩
              · intro u wz au hau hu hF hp' K hK
                have t6 : au.tmps[6]?.getD undef = .pointer (some ⟨M, 0, none⟩) := by rw [hau.out]; kernel_rfl
                have x0 := cellU hF g0
                have x1 := cellU hF g1
                have x2 := cellU hF g2
                have x3 := cellU hF g3
                have x4 := cellU hF g4
                have x5 := cellU hF g5
                have x6 := cellU hF g6
                have x7 := cellU hF g7
                have x8 := cellU hF g8
                refine step_plain rfl ?_
                go_simp
                exact hK.out (mat9 (mtx a b c d)) _ hF (oneF_val (j := 0) (upU_same _ _ _) (by decide) (by decide)) (fun j hj _ h => oneF_up (Below.refl _ _) 0 _ j hj (fun _ e => by cases e) h)
              · intro u wz au hau hu hF hp' K hK
                have t10 : au.tmps[10]?.getD undef = .pointer (some ⟨U, 0, none⟩) := by rw [hau.out]; kernel_rfl
                have x0 := cellU hF f0
                have x1 := cellU hF f1
                have x2 := cellU hF f2
                refine step_plain rfl ?_
                go_simp
                exact hK.out (v3v x y z) _ hF (oneF_val (j := 1) (upU_same _ _ _) (by decide) (by decide)) (fun j hj _ h => oneF_up (Below.refl _ _) 1 _ j hj (fun _ e => by cases e) h)
              · intro u wz au hau hu hF hp' K hK
                have h0 : u 0 = mat9 (mtx a b c d) := (PreF.get hp' 0 (by kernel_rfl)).1
                have t59 : au.tmps[59]?.getD undef = u 0 := by rw [hau.out]; kernel_rfl
                rw [h0] at t59
                have h1 : u 1 = v3v x y z := (PreF.get hp' 1 (by kernel_rfl)).1
                have t60 : au.tmps[60]?.getD undef = u 1 := by rw [hau.out]; kernel_rfl
                rw [h1] at t60
                refine step_plain rfl ?_
                go_simp
                refine (cT wz).mono ?_
                rintro e w' ⟨rfl, hb⟩
                exact hK.out (v3v m0 m1 m2) _ (bnext hF (Nat.le_refl _) hb) (oneF_val (j := 2) (upU_same _ _ _) (by decide) (by decide)) (fun j hj _ h => oneF_up hb 2 _ j hj (fun _ e => by cases e) h)
              · intro u wz au hau hu hF hp' K hK
                have t7 : au.tmps[7]?.getD undef = .pointer (some ⟨P, 0, none⟩) := by rw [hau.out]; kernel_rfl
                have x0 := cellU hF p0
                have x1 := cellU hF p1
                have x2 := cellU hF p2
                refine step_plain rfl ?_
                go_simp
                exact hK.out (v3v (X - 1) (X - 1) (X - 1)) _ hF (oneF_val (j := 3) (upU_same _ _ _) (by decide) (by decide)) (fun j hj _ h => oneF_up (Below.refl _ _) 3 _ j hj (fun _ e => by cases e) h)
              · intro u wz au hau hu hF hp' K hK
                have h2 : u 2 = v3v m0 m1 m2 := (PreF.get hp' 2 (by kernel_rfl)).1
                have t61 : au.tmps[61]?.getD undef = u 2 := by rw [hau.out]; kernel_rfl
                rw [h2] at t61
                have h3 : u 3 = v3v (X - 1) (X - 1) (X - 1) := (PreF.get hp' 3 (by kernel_rfl)).1
                have t62 : au.tmps[62]?.getD undef = u 3 := by rw [hau.out]; kernel_rfl
                rw [h3] at t62
                refine step_plain rfl ?_
                go_simp
                refine (cQ wz).mono ?_
                rintro e w' ⟨rfl, hb⟩
                exact hK.out (v3v s0 s1 s2) _ (bnext hF (Nat.le_refl _) hb) (oneF_val (j := 4) (upU_same _ _ _) (by decide) (by decide)) (fun j hj _ h => oneF_up hb 4 _ j hj (fun _ e => by cases e) h)
              · intro u wz au hau hu hF hp' K hK
                have hb := bnew wz (.cells #[.int .i64 0, .int .i64 0, .int .i64 0] 57)
                have HX := hide (BxZ.new [.int .i64 0, .int .i64 0, .int .i64 0] 57 wz)
                refine step_plain rfl ?_
                go_simp
                exact hK.out (.pointer (some ⟨wz.heap.size, 0, none⟩)) _ (hF.alloc hF.size _) ⟨trivial, (fun _ => ⟨_, [.int .i64 0, .int .i64 0, .int .i64 0], upU_same _ _ _, hF.size, rfl, HX.out⟩), (fun e => absurd e (by decide))⟩ (fun j hj hf h => oneF_up hb 5 _ j hj (fun e _ => by subst e; exact absurd (Eq.trans (Eq.symm (by kernel_rfl)) hf) Bool.false_ne_true) h)
              · intro u wz au hau hu hF hp' K hK
                obtain ⟨U, ts, hT1, hT2, hT3, hT4⟩ := (PreF.get hp' 5 (by kernel_rfl)).2.1 rfl
                have h1 : u 4 = v3v (s0) (s1) (s2) := (PreF.get hp' 4 (by kernel_rfl)).1
                have t11 : au.tmps[11]?.getD undef = u 5 := by rw [hau.out]; kernel_rfl
                have t63 : au.tmps[63]?.getD undef = u 4 := by rw [hau.out]; kernel_rfl
                rw [hT1] at t11
                rw [h1] at t63
                have hth : wz.there U 0 3 := by have := hT4.there; rwa [hT3] at this
                refine step_plain rfl ?_
                refine wp_store_mid _ _ _ rfl U 0 [.int .i64 (s0), .int .i64 (s1), .int .i64 (s2)].toArray ((eval_tmp au 11).trans t11) ((eval_tmp au 63).trans t63) hth (by kernel_rfl) (by kernel_rfl) ?_
                exact hK.out (.int .i64 0) _ (belowSets hT2 _ _ hF) (oneF_done hT1 hT3 hT4 (by decide) _ trivial) (fun j hj _ h => oneF_put hT1 hT3 hT4 (by decide) _ j hj h)
            · intro u wg hF hall
              obtain ⟨W, ts, hT1, hT2, -, -⟩ := (hall 5 (by decide)).2.1 rfl
              obtain ⟨W', hT1', hT4⟩ := (hall 6 (by decide)).2.2 rfl
              rw [hT1] at hT1'
              cases hT1'
              have hS4 := HS8.out.next hF
              have hTn : W ∉ blocks _ _ := fun h => by have := (HS8.out.lt W h).2; omega
              have hTw := Nat.le_trans HS8.out.below.size hT2
              have HS9 := hide (hS4.take hT4 hTn hTw)
              have zk9 := cellU hF zk8
              simp only [rgPut, Act.put, hT1]
              go_simp
              clear hall hS4 hT1 hT4 hTn HS8 hF zk8 cT cQ g0 g1 g2 g3 g4 g5 g6 g7 g8 f0 f1 f2 p0 p1 p2
              obtain ⟨hx, hy, hz⟩ := HXYZ.out
              obtain ⟨hm0, hm1, hm2, hs0, hs1, hs2⟩ := HM9.out
              rw [hx, hy, hz, ← hr, ← hs, ← ht] at hm0 hm1 hm2
              obtain ⟨p0, p0', p0''⟩ := tp_in HT.out hX.1 hkX (i := 0) (by omega)
              rw [hm0] at p0
              have d0 : s0.tdiv 2 = tp a b c d X 0 k := by rw [Int.tdiv_eq_ediv_of_nonneg (by omega)]; unfold tp; rw [hm0]; congr 1; omega
              obtain ⟨p1, p1', p1''⟩ := tp_in HT.out hX.1 hkX (i := 1) (by omega)
              rw [hm1] at p1
              have d1 : s1.tdiv 2 = tp a b c d X 1 k := by rw [Int.tdiv_eq_ediv_of_nonneg (by omega)]; unfold tp; rw [hm1]; congr 1; omega
              obtain ⟨p2, p2', p2''⟩ := tp_in HT.out hX.1 hkX (i := 2) (by omega)
              rw [hm2] at p2
              have d2 : s2.tdiv 2 = tp a b c d X 2 k := by rw [Int.tdiv_eq_ediv_of_nonneg (by omega)]; unfold tp; rw [hm2]; congr 1; omega
              obtain ⟨g0, g1⟩ := tg_in HT.out hX.1 hkX
              have HG : Hid (tg a b c d X k = (tp a b c d X 2 k * X + tp a b c d X 1 k) * X + tp a b c d X 0 k) := rfl
              obtain ⟨G, hG⟩ : ∃ G : Nat, tg a b c d X k = G := ⟨(tg a b c d X k).toNat, by omega⟩
              have hGn : G < n := by have := HNn.out; omega
              have HNx : Hid (∀ q, updN (tvs (tg a b c d X) f k) G (f k) q = tvs (tg a b c d X) f (k + 1) q) := fun q => by
                show _ = (if q = (tg a b c d X k).toNat then f k else _)
                rw [hG]; rfl
              rw [hG] at HG
              clear hm0 hm1 hm2 hs0 hs1 hs2 hx hy hz g0 g1 hG HXYZ HM9
              generalize tp a b c d X 0 k = P0 at *
              generalize tp a b c d X 1 k = P1 at *
              generalize tp a b c d X 2 k = P2 at *
              obtain ⟨T1, hT1⟩ : ∃ T, P2 * X = T := ⟨_, rfl⟩
              have b1 := mulB (A := 32) (B := 32) (by omega) (by omega) (show -32 ≤ X by omega) hX.2 (a := P2)
              rw [hT1] at b1 HG
              obtain ⟨T2, hT2⟩ : ∃ T, (T1 + P1) * X = T := ⟨_, rfl⟩
              have b2 := mulB (A := 2000) (B := 32) (by omega) (by omega) (show -32 ≤ X by omega) hX.2 (a := T1 + P1)
              rw [hT2] at b2 HG
              have v1 : IntKind.i64.wrap (P2 * X) = T1 := by rw [hT1, IntKind.wrap_i64]; omega
              have v2 : IntKind.i64.wrap (T1 + P1) = T1 + P1 := by rw [IntKind.wrap_i64]; omega
              have v3 : IntKind.i64.wrap (IntKind.i64.wrap (T1 + P1) * X) = T2 := by rw [v2, hT2, IntKind.wrap_i64]; omega
              have v4 : IntKind.i64.wrap (T2 + P0) = (G : Int) := by have := HG.out; rw [IntKind.wrap_i64]; omega
              have cI := fun w' => numberIn_any X X X (some ⟨b9, o9, none⟩) n cap P0 P1 P2 T1 T2 v1 v3 v2 (G : Int) v4 w'
              have w0 : IntKind.i64.wrap P0 = P0 := by rw [IntKind.wrap_i64]; omega
              have w1 : IntKind.i64.wrap P1 = P1 := by rw [IntKind.wrap_i64]; omega
              have w2 : IntKind.i64.wrap P2 = P2 := by rw [IntKind.wrap_i64]; omega
              clear hT1 hT2 b1 b2 v1 v2 v3 v4 HG p0 p1 p2 p0' p1' p2' p0'' p1'' p2''
              generalize f k = F at *
              go_upto_region 10 with fail
              refine region_ops (fun w' => ∃ h : Nat → Int, St w [(W, [.int .i64 s0, .int .i64 s1, .int .i64 s2]), (U, [.int .i64 x, .int .i64 y, .int .i64 z]), (P, [.int .i64 (X - 1), .int .i64 (X - 1), .int .i64 (X - 1)]), (M, mL (mtx a b c d)), (C, [.int .i64 X, .int .i64 X, .int .i64 X, .slice (some ⟨B, 0, none⟩) n n]), (w.heap.size + 2, [.int .i64 0, .int .i64 0, .int .i64 0, .slice none 0 0]), (w.heap.size + 1, [.int .i64 a, .int .i64 b, .int .i64 c, .int .i64 d]), (w.heap.size, [.int .i64 X, .int .i64 X, .int .i64 X, .slice (some ⟨b9, o9, none⟩) n cap])] [(some ⟨B, 0, none⟩, B, n, fun q => .int .i64 (h q))] w' ∧ ∀ q, updN h G F q = tvs (tg a b c d X) f (k + 1) q) (lastF (r10G X (some ⟨b9, o9, none⟩) n cap C B W G s0 s1 s2 P0 P1 P2 F) 16 (fun w' => St w [(W, [.int .i64 s0, .int .i64 s1, .int .i64 s2]), (U, [.int .i64 x, .int .i64 y, .int .i64 z]), (P, [.int .i64 (X - 1), .int .i64 (X - 1), .int .i64 (X - 1)]), (M, mL (mtx a b c d)), (C, [.int .i64 X, .int .i64 X, .int .i64 X, .slice (some ⟨B, 0, none⟩) n n]), (w.heap.size + 2, [.int .i64 0, .int .i64 0, .int .i64 0, .slice none 0 0]), (w.heap.size + 1, [.int .i64 a, .int .i64 b, .int .i64 c, .int .i64 d]), (w.heap.size, [.int .i64 X, .int .i64 X, .int .i64 X, .slice (some ⟨b9, o9, none⟩) n cap])] [(some ⟨B, 0, none⟩, B, n, fun q => .int .i64 (tvs (tg a b c d X) f (k + 1) q))] w')) (by kernel_rfl) (by kernel_rfl) (by kernel_rfl) ⟨_, HS9.out.drew, HNx.out⟩ ?_ ?_
              · refine ⟨?_, ?_, ?_, ?_, ?_, ?_, ?_, ?_, ?_, ?_, ?_, ?_, ?_, ?_, ?_, ?_, ?_, trivial⟩
                · intro u wz au hau hu hF hp' K hK
                  have t5 : au.tmps[5]?.getD undef = .pointer (some ⟨C, 0, none⟩) := by rw [hau.out]; kernel_rfl
                  refine step_plain rfl ?_
                  go_simp
                  exact hK.out (.pointer (some ⟨C, 3, none⟩)) _ hF (lastF_val (j := 0) (upU_same _ _ _) (by decide)) (fun j hj hf h => lastF_up 0 _ j hj (fun e => by subst e; exact absurd (Eq.trans (Eq.symm (by kernel_rfl)) hf) Bool.false_ne_true) h)
                · intro u wz au hau hu hF hp' K hK
                  have h0 : u 0 = .pointer (some ⟨C, 3, none⟩) := (PreF.get hp' 0 (by kernel_rfl)).1
                  have t64 : au.tmps[64]?.getD undef = u 0 := by rw [hau.out]; kernel_rfl
                  rw [h0] at t64
                  obtain ⟨h9, hS9, -⟩ := id hF
                  obtain ⟨e0, e1, e2, e3⟩ := hS9.im4 4 rfl
                  clear hS9
                  refine step_plain rfl ?_
                  go_simp
                  exact hK.out (.slice (some ⟨B, 0, none⟩) n n) _ hF (lastF_val (j := 1) (upU_same _ _ _) (by decide)) (fun j hj hf h => lastF_up 1 _ j hj (fun e => by subst e; exact absurd (Eq.trans (Eq.symm (by kernel_rfl)) hf) Bool.false_ne_true) h)
                · intro u wz au hau hu hF hp' K hK
                  have t2 : au.tmps[2]?.getD undef = .pointer (some ⟨w.heap.size, 0, none⟩) := by rw [hau.out]; kernel_rfl
                  obtain ⟨h9, hS9, -⟩ := id hF
                  obtain ⟨e0, e1, e2, e3⟩ := hS9.im4 7 rfl
                  clear hS9
                  refine step_plain rfl ?_
                  go_simp
                  exact hK.out (vVolume X X X (some ⟨b9, o9, none⟩) n cap) _ hF (lastF_val (j := 2) (upU_same _ _ _) (by decide)) (fun j hj hf h => lastF_up 2 _ j hj (fun e => by subst e; exact absurd (Eq.trans (Eq.symm (by kernel_rfl)) hf) Bool.false_ne_true) h)
                · intro u wz au hau hu hF hp' K hK
                  have t11 : au.tmps[11]?.getD undef = .pointer (some ⟨W, 0, none⟩) := by rw [hau.out]; kernel_rfl
                  refine step_plain rfl ?_
                  go_simp
                  exact hK.out (.pointer (some ⟨W, 0, none⟩)) _ hF (lastF_val (j := 3) (upU_same _ _ _) (by decide)) (fun j hj hf h => lastF_up 3 _ j hj (fun e => by subst e; exact absurd (Eq.trans (Eq.symm (by kernel_rfl)) hf) Bool.false_ne_true) h)
                · intro u wz au hau hu hF hp' K hK
                  have h3 : u 3 = .pointer (some ⟨W, 0, none⟩) := (PreF.get hp' 3 (by kernel_rfl)).1
                  have t67 : au.tmps[67]?.getD undef = u 3 := by rw [hau.out]; kernel_rfl
                  rw [h3] at t67
                  obtain ⟨h9, hS9, -⟩ := id hF
                  obtain ⟨e0, e1, e2⟩ := hS9.im3 0 rfl
                  clear hS9
                  refine step_plain rfl ?_
                  go_simp
                  exact hK.out (.int .i64 s0) _ hF (lastF_val (j := 4) (upU_same _ _ _) (by decide)) (fun j hj hf h => lastF_up 4 _ j hj (fun e => by subst e; exact absurd (Eq.trans (Eq.symm (by kernel_rfl)) hf) Bool.false_ne_true) h)
                · intro u wz au hau hu hF hp' K hK
                  have h4 : u 4 = .int .i64 s0 := (PreF.get hp' 4 (by kernel_rfl)).1
                  have t68 : au.tmps[68]?.getD undef = u 4 := by rw [hau.out]; kernel_rfl
                  rw [h4] at t68
                  refine step_plain rfl ?_
                  go_simp
                  exact hK.out (.int .i64 P0) _ hF (lastF_val (j := 5) (upU_same _ _ _) (by decide)) (fun j hj hf h => lastF_up 5 _ j hj (fun e => by subst e; exact absurd (Eq.trans (Eq.symm (by kernel_rfl)) hf) Bool.false_ne_true) h)
                · intro u wz au hau hu hF hp' K hK
                  have t11 : au.tmps[11]?.getD undef = .pointer (some ⟨W, 0, none⟩) := by rw [hau.out]; kernel_rfl
                  refine step_plain rfl ?_
                  go_simp
                  exact hK.out (.pointer (some ⟨W, 1, none⟩)) _ hF (lastF_val (j := 6) (upU_same _ _ _) (by decide)) (fun j hj hf h => lastF_up 6 _ j hj (fun e => by subst e; exact absurd (Eq.trans (Eq.symm (by kernel_rfl)) hf) Bool.false_ne_true) h)
                · intro u wz au hau hu hF hp' K hK
                  have h6 : u 6 = .pointer (some ⟨W, 1, none⟩) := (PreF.get hp' 6 (by kernel_rfl)).1
                  have t70 : au.tmps[70]?.getD undef = u 6 := by rw [hau.out]; kernel_rfl
                  rw [h6] at t70
                  obtain ⟨h9, hS9, -⟩ := id hF
                  obtain ⟨e0, e1, e2⟩ := hS9.im3 0 rfl
                  clear hS9
                  refine step_plain rfl ?_
                  go_simp
                  exact hK.out (.int .i64 s1) _ hF (lastF_val (j := 7) (upU_same _ _ _) (by decide)) (fun j hj hf h => lastF_up 7 _ j hj (fun e => by subst e; exact absurd (Eq.trans (Eq.symm (by kernel_rfl)) hf) Bool.false_ne_true) h)
                · intro u wz au hau hu hF hp' K hK
                  have h7 : u 7 = .int .i64 s1 := (PreF.get hp' 7 (by kernel_rfl)).1
                  have t71 : au.tmps[71]?.getD undef = u 7 := by rw [hau.out]; kernel_rfl
                  rw [h7] at t71
                  refine step_plain rfl ?_
                  go_simp
                  exact hK.out (.int .i64 P1) _ hF (lastF_val (j := 8) (upU_same _ _ _) (by decide)) (fun j hj hf h => lastF_up 8 _ j hj (fun e => by subst e; exact absurd (Eq.trans (Eq.symm (by kernel_rfl)) hf) Bool.false_ne_true) h)
                · intro u wz au hau hu hF hp' K hK
                  have t11 : au.tmps[11]?.getD undef = .pointer (some ⟨W, 0, none⟩) := by rw [hau.out]; kernel_rfl
                  refine step_plain rfl ?_
                  go_simp
                  exact hK.out (.pointer (some ⟨W, 2, none⟩)) _ hF (lastF_val (j := 9) (upU_same _ _ _) (by decide)) (fun j hj hf h => lastF_up 9 _ j hj (fun e => by subst e; exact absurd (Eq.trans (Eq.symm (by kernel_rfl)) hf) Bool.false_ne_true) h)
                · intro u wz au hau hu hF hp' K hK
                  have h9 : u 9 = .pointer (some ⟨W, 2, none⟩) := (PreF.get hp' 9 (by kernel_rfl)).1
                  have t73 : au.tmps[73]?.getD undef = u 9 := by rw [hau.out]; kernel_rfl
                  rw [h9] at t73
                  obtain ⟨h9, hS9, -⟩ := id hF
                  obtain ⟨e0, e1, e2⟩ := hS9.im3 0 rfl
                  clear hS9
                  refine step_plain rfl ?_
                  go_simp
                  exact hK.out (.int .i64 s2) _ hF (lastF_val (j := 10) (upU_same _ _ _) (by decide)) (fun j hj hf h => lastF_up 10 _ j hj (fun e => by subst e; exact absurd (Eq.trans (Eq.symm (by kernel_rfl)) hf) Bool.false_ne_true) h)
                · intro u wz au hau hu hF hp' K hK
                  have h10 : u 10 = .int .i64 s2 := (PreF.get hp' 10 (by kernel_rfl)).1
                  have t74 : au.tmps[74]?.getD undef = u 10 := by rw [hau.out]; kernel_rfl
                  rw [h10] at t74
                  refine step_plain rfl ?_
                  go_simp
                  exact hK.out (.int .i64 P2) _ hF (lastF_val (j := 11) (upU_same _ _ _) (by decide)) (fun j hj hf h => lastF_up 11 _ j hj (fun e => by subst e; exact absurd (Eq.trans (Eq.symm (by kernel_rfl)) hf) Bool.false_ne_true) h)
                · intro u wz au hau hu hF hp' K hK
                  have h5 : u 5 = .int .i64 P0 := (PreF.get hp' 5 (by kernel_rfl)).1
                  have t69 : au.tmps[69]?.getD undef = u 5 := by rw [hau.out]; kernel_rfl
                  rw [h5] at t69
                  have h8 : u 8 = .int .i64 P1 := (PreF.get hp' 8 (by kernel_rfl)).1
                  have t72 : au.tmps[72]?.getD undef = u 8 := by rw [hau.out]; kernel_rfl
                  rw [h8] at t72
                  have h11 : u 11 = .int .i64 P2 := (PreF.get hp' 11 (by kernel_rfl)).1
                  have t75 : au.tmps[75]?.getD undef = u 11 := by rw [hau.out]; kernel_rfl
                  rw [h11] at t75
                  refine step_plain rfl ?_
                  go_simp
                  exact hK.out (v3v P0 P1 P2) _ hF (lastF_val (j := 12) (upU_same _ _ _) (by decide)) (fun j hj hf h => lastF_up 12 _ j hj (fun e => by subst e; exact absurd (Eq.trans (Eq.symm (by kernel_rfl)) hf) Bool.false_ne_true) h)
                · intro u wz au hau hu hF hp' K hK
                  have h2 : u 2 = vVolume X X X (some ⟨b9, o9, none⟩) n cap := (PreF.get hp' 2 (by kernel_rfl)).1
                  have t66 : au.tmps[66]?.getD undef = u 2 := by rw [hau.out]; kernel_rfl
                  rw [h2] at t66
                  have h12 : u 12 = v3v P0 P1 P2 := (PreF.get hp' 12 (by kernel_rfl)).1
                  have t76 : au.tmps[76]?.getD undef = u 12 := by rw [hau.out]; kernel_rfl
                  rw [h12] at t76
                  refine step_plain rfl ?_
                  go_simp
                  refine (cI wz).mono ?_
                  rintro e w' ⟨rfl, hb⟩
                  exact hK.out (.int .i64 (G : Int)) _ ⟨_, hF.choose_spec.1.next hb, hF.choose_spec.2⟩ (lastF_val (j := 13) (upU_same _ _ _) (by decide)) (fun j hj hf h => lastF_up 13 _ j hj (fun e => by subst e; exact absurd (Eq.trans (Eq.symm (by kernel_rfl)) hf) Bool.false_ne_true) h)
                · intro u wz au hau hu hF hp' K hK
                  have t9 : au.tmps[9]?.getD undef = .int .i64 F := by rw [hau.out]; kernel_rfl
                  refine step_plain rfl ?_
                  go_simp
                  exact hK.out (.int .i64 F) _ hF (lastF_val (j := 14) (upU_same _ _ _) (by decide)) (fun j hj hf h => lastF_up 14 _ j hj (fun e => by subst e; exact absurd (Eq.trans (Eq.symm (by kernel_rfl)) hf) Bool.false_ne_true) h)
                · intro u wz au hau hu hF hp' K hK
                  have h1 : u 1 = .slice (some ⟨B, 0, none⟩) n n := (PreF.get hp' 1 (by kernel_rfl)).1
                  have t65 : au.tmps[65]?.getD undef = u 1 := by rw [hau.out]; kernel_rfl
                  rw [h1] at t65
                  have h13 : u 13 = .int .i64 (G : Int) := (PreF.get hp' 13 (by kernel_rfl)).1
                  have t77 : au.tmps[77]?.getD undef = u 13 := by rw [hau.out]; kernel_rfl
                  rw [h13] at t77
                  have hGi : (G : Int) < (n : Int) := by omega
                  refine step_plain rfl ?_
                  go_simp
                  exact hK.out (.pointer (some ⟨B, G, none⟩)) _ hF (lastF_val (j := 15) (upU_same _ _ _) (by decide)) (fun j hj hf h => lastF_up 15 _ j hj (fun e => by subst e; exact absurd (Eq.trans (Eq.symm (by kernel_rfl)) hf) Bool.false_ne_true) h)
                · intro u wz au hau hu hF hp' K hK
                  have h15 : u 15 = .pointer (some ⟨B, G, none⟩) := (PreF.get hp' 15 (by kernel_rfl)).1
                  have t79 : au.tmps[79]?.getD undef = u 15 := by rw [hau.out]; kernel_rfl
                  rw [h15] at t79
                  have h14 : u 14 = .int .i64 F := (PreF.get hp' 14 (by kernel_rfl)).1
                  have t78 : au.tmps[78]?.getD undef = u 14 := by rw [hau.out]; kernel_rfl
                  rw [h14] at t78
                  obtain ⟨h9, hS9, hh9⟩ := hF
                  obtain ⟨dG, fG⟩ := hS9.atO hGn
                  have HE := hS9.upd hGn F
                  simp only [hh9] at HE
                  clear hS9
                  refine step_plain rfl ?_
                  go_simp
                  exact hK.out (.int .i64 0) _ ⟨_, HE, fun q => updN_twice hh9 q⟩ ⟨trivial, fun _ => HE⟩ (fun j hj _ h => lastF_up 16 _ j hj hj h)
              · intro u wl hF hall
                have HL := hide ((hall 16 (by decide)).2 rfl)
                have HSL := hide (HL.out.sub (List.Sublist.cons _ (List.Sublist.cons _ (List.Sublist.refl _))) (List.Sublist.refl _))
                clear hall hF HL HS9
                simp only [rgPut, Act.put]
                go_simp
                go_wp2_with fail
                exact ⟨⟨k + 1, by omega, by go_num, HSL.out⟩, by simp [intOf]; omega⟩
        · obtain rfl : k = n := by omega
          obtain ⟨i0, i1, i2, i3⟩ := HS.out.im4 5 rfl
          obtain ⟨j0, j1, j2, j3⟩ := HS.out.im4 2 rfl
          obtain ⟨y0, y1, y2, y3⟩ := HS.out.im4 3 rfl
          obtain ⟨e0, e1, e2, e3⟩ := HS.out.fr4 3 rfl
          have HE := hide (St.fill (L1 := [_, _, _]) (St.fill (L1 := [_, _, _]) (St.fill (L1 := [_, _, _]) (St.fill (L1 := [_, _, _]) HS.out 0 (.int .i64 X)) 1 (.int .i64 X)) 2 (.int .i64 X)) 3 (.slice (some ⟨B, 0, none⟩) k k))
          clear HS HP HT
          go_wp2_with fail
          exact bodyPost_ret (v := vVolume X X X (some ⟨B, 0, none⟩) k k) (by simp [results, Tryd.results8, go_sem, y0, y1, y2, y3]) rfl ⟨some ⟨B, 0, none⟩, k, B, rfl, (HE.out.nthO 0 rfl).i, .inr hB, HE.out.below⟩

end Go.Proofs.YtkgkdhocmglklaaDoor
