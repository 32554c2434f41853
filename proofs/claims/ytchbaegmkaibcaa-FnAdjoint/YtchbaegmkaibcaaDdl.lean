/- The draw of a mask and a brush. -/
import Derived.Test.YtchbaegmkaibcaaDab
namespace Go.Proofs.Ytchbaegmkaibcaa
open Go.RowKit

/-- a mask and a brush are drawn -/
def DDR (w : World) (e : Ending) (w' : World) : Prop := ∃ (W H : Int) (x : Option Addr) (n c : Nat) (f : Nat → Int) (a2 : Option Addr) (m c2 : Nat) (g : Nat → Int), e = .returned (.tuple #[im W H x n c, .slice a2 m c2]) ∧ n ≤ 101 ∧ m ≤ 27 ∧ m ≤ c2 ∧ Px x n f w' ∧ Px a2 (m * 2) g w' ∧ (a2 = none → m = 0 ∧ c2 = 0) ∧ Below w.heap.size w w'
theorem own_pxS {w : World} {B m : Nat} {e : TypeId} {a : Option Addr} {c : Nat} {L : List Int} (h : w.ownsRow B e 2 (.slice a m c) m (ints L)) : Px a (m * 2) (fun k => L.getD k 0) w ∧ (a = none → m = 0 ∧ c = 0) := by
  obtain ⟨hlen, ⟨h1, rfl⟩ | ⟨g, cap', cur, h1, _⟩⟩ := id h
  · exact ⟨.inl (by omega), fun _ => ⟨rfl, (Value.slice.inj h1).2.2⟩⟩
  · obtain ⟨rfl, -, rfl⟩ := Value.slice.inj h1
    rw [ints_length] at hlen
    refine ⟨.inr ⟨g, 0, rfl, fun k hk => ?_⟩, fun e => by cases e⟩
    rw [Nat.zero_add, h.cellAt k hk, ints_at _ _ (by omega)]

/-- a brush of the call's own -/
def OwnB (B : Nat) (v : Value) (w : World) : Prop := ∃ m L, m ≤ 27 ∧ w.ownsRow B 35 2 v m (ints L)
theorem OwnB.kept {B p : Nat} {v : Value} {w w' : World} (h : OwnB B v w) (hk : Kept p w w') (hp : p < B) : OwnB B v w' := by
  obtain ⟨m, L, hm, ho⟩ := h
  exact ⟨m, L, hm, owns_kept ho hk hp⟩
theorem owns_monoT {w : World} {B B' n m : Nat} {e : TypeId} {v : Value} {xs : List Value} (h : w.ownsRow B e m v n xs) (hB : B' ≤ B) : w.ownsRow B' e m v n xs := by
  obtain ⟨h1, h2⟩ := h
  refine ⟨h1, ?_⟩
  rcases h2 with h2 | ⟨g, cap, cur, hv, hB', hr⟩
  · exact .inl h2
  · exact .inr ⟨g, cap, cur, hv, Nat.le_trans hB hB', hr⟩
theorem Cur.keptR {p R : Nat} {a : Option Addr} {len cap : Nat} {w w' : World} (h : Cur p a len cap w) (hk : Kept R w w') (hp : p ≠ R) (hab : len = 0 ∨ ∀ b off, a = some ⟨b, off, none⟩ → b ≠ R) : Cur p a len cap w' := by
  obtain ⟨h0, ⟨i, hi, h1⟩, ⟨y, h2⟩, f1, f2, hs, hby⟩ := h
  refine ⟨hk.cell (a := ⟨p, 0, none⟩) hp h0, ⟨i, hi, hk.cell (a := ⟨p, 1, none⟩) hp h1⟩, ⟨y, hk.cell (a := ⟨p, 2, none⟩) hp h2⟩, (hk.frozen (a := ⟨p, 1, none⟩) hp h1).trans f1, (hk.frozen (a := ⟨p, 2, none⟩) hp h2).trans f2, hs, ?_⟩
  rcases hab with h0 | hab
  · exact .inl h0
  rcases hby with hby | ⟨b, off, ha, hne, hby⟩
  · exact .inl hby
  · refine .inr ⟨b, off, ha, hne, fun k hk' => ?_⟩
    obtain ⟨z, z0, z1, hz⟩ := hby k hk'
    exact ⟨z, z0, z1, hk.cell (a := ⟨b, off + k, none⟩) (hab b off ha) hz⟩
/-- what stays in the region: the cursor turns, the answer's box is filled -/
structure dR (p : Nat) (a : Option Addr) (len cap : Nat) (w0 : World) (B R I : Nat) (W H : Int) (x : Option Addr) (b m c : Nat) (f : Nat → Int) (u : Nat → Value) (w : World) : Prop where
  cur : Cur p a len cap w
  below : Below w0.heap.size w0 w
  ow : Ow x b m f w
  src : Bx I [.int .i64 W, .int .i64 H, .slice x m c] w
  res : ∃ v0 v1 v2, Bx R [v0, v1, v2] w ∧ (u 3 ≠ undef → v0 = .int .i64 W ∧ v1 = .int .i64 H ∧ v2 = .slice x m c)
  sz : B ≤ w.heap.size
/-- what each operation leaves -/
def dF (p B : Nat) (W H : Int) (x : Option Addr) (m c : Nat) (j : Nat) (u : Nat → Value) (w : World) : Prop :=
  (j = 0 → u 0 = im W H x m c) ∧ (j = 1 → u 1 = .pointer (some ⟨p, 0, none⟩)) ∧ (j = 2 → OwnB B (u 2) w) ∧ (j = 3 → u 3 ≠ undef) ∧ (j = 4 → OwnB B (u 4) w)
section
variable {p : Nat} {a : Option Addr} {len cap B R I m c b : Nat} {w0 w w' : World} {W H : Int} {x : Option Addr} {f : Nat → Int} {u : Nat → Value}
theorem dR_up (h : dR p a len cap w0 B R I W H x b m c f u w) (hc : Cur p a len cap w') (hk : Kept p w w') (hp0 : w0.heap.size ≤ p) (hpI : I ≠ p) (hpR : R ≠ p) (hb : m = 0 ∨ b ≠ p) (i : Nat) (hi : 3 ≠ i) (v : Value) : dR p a len cap w0 B R I W H x b m c f (upU u i v) w' := by
  refine ⟨hc, h.below.trans (hk.below hp0 h.below.size), OwV.keptO (x := (x, b, m, fun k => .int .i64 (f k))) h.ow.v hk (fun h0 => hb.resolve_left h0), h.src.kept hk hpI, ?_, Nat.le_trans h.sz hk.size⟩
  obtain ⟨v0, v1, v2, h1, h2⟩ := h.res
  exact ⟨v0, v1, v2, h1.kept hk hpR, fun e => h2 (by rwa [upU_other u v hi] at e)⟩
theorem dF_up (h : ∀ v, OwnB B v w → OwnB B v w') (i : Nat) (v : Value) (j : Nat) (hj : j ≠ i) (hf : dF p B W H x m c j u w) : dF p B W H x m c j (upU u i v) w' := by
  obtain ⟨h0, h1, h2, h3, h4⟩ := hf
  have up : ∀ k, j = k → upU u i v k = u k := fun k e => upU_other u v (by rw [← e]; exact hj)
  exact ⟨fun e => (up 0 e).trans (h0 e), fun e => (up 1 e).trans (h1 e), fun e => by rw [up 2 e]; exact h _ (h2 e), fun e => by rw [up 3 e]; exact h3 e, fun e => by rw [up 4 e]; exact h _ (h4 e)⟩
end

set_option maxRecDepth 100000 in
set_option maxHeartbeats 4000000 in
theorem drawDilate_any (a : Option Addr) (len cap : Nat) (w : World) (h : Bytes a len w) :
    Calls Try.prog 5 #[.slice a len cap] w (DDR w) := by
  have hb := bnew w (.cells #[.int .i64 0, .int .i64 0, .slice none 0 0] 26)
  have HX := hide (Bx.new [.int .i64 0, .int .i64 0, .slice none 0 0] 26 w)
  have HB := hide hb
  have h1 := h.below hb
  have HBY0 := hide h
  have hz : (w.alloc (.cells #[.int .i64 0, .int .i64 0, .slice none 0 0] 26)).heap.size = w.heap.size + 1 := by simp
  have HBY := hide h1
  clear h hb h1
  have hn := new_any a len cap _ HBY.out
  have HABR : Hid (len = 0 ∨ ∀ b off, a = some ⟨b, off, none⟩ → b ≠ w.heap.size) := (bytes_lt HBY0.out (Nat.le_refl _)).imp id fun h b off e => by have := h b off e; omega
  go_enter Try.func5, Try.ntmps5
  go_upto_region 1 with fail
  generalize hw1 : w.alloc (.cells #[.int .i64 0, .int .i64 0, .slice none 0 0] 26) = w1 at *
  clear hw1
  go_wp2_with fail
  refine hn.mono ?_
  rintro e w2 ⟨x, rfl, rfl⟩
  have hc := cur_new a len cap w1 HBY.out x
  have hz2 : (w1.alloc (.cells #[.slice a len cap, .int .i64 0, .int .i64 x] 57)).heap.size = w1.heap.size + 1 := by simp
  have cM := drawAnyMask_any spoil_any w1.heap.size a len cap _ hc (by omega) (bytes_lt HBY.out (by omega))
  have HB2 := hide (bnew w1 (.cells #[.slice a len cap, .int .i64 0, .int .i64 x] 57))
  have HX2 := hide (HX.out.below HB2.out (by omega))
  have HAB : Hid (len = 0 ∨ ∀ b off, a = some ⟨b, off, none⟩ → b < w1.heap.size) := bytes_lt HBY.out (Nat.le_refl _)
  clear hn hc HX HBY
  go_upto_region 2 with fail
  generalize hw2 : w1.alloc (.cells #[.slice a len cap, .int .i64 0, .int .i64 x] 57) = w2 at *
  clear hw2
  rw [hz] at cM HAB hz2
  obtain ⟨p, hp⟩ : ∃ p, p = w.heap.size + 1 := ⟨_, rfl⟩
  have HZ : Hid (p = w.heap.size + 1 ∧ w2.heap.size = w.heap.size + 2 ∧ w1.heap.size = w.heap.size + 1) := ⟨hp, by omega, hz⟩
  try rw [hz]
  rw [← hp] at cM HAB ⊢
  clear hz hz2 hp
  go_wp2_with fail
  refine cM.mono ?_
  rintro e w3 ⟨W, H, x3, b3, m, c, f, rfl, hm, ho, hb3, hc3, hk3⟩
  have hb4 := bnew w3 (.cells #[.int .i64 W, .int .i64 H, .slice x3 m c] 26)
  have hs3 := hk3.size
  have HX4 := hide ((HX2.out.kept hk3 (by have := HZ.out; omega)).below hb4 (by have := HZ.out; omega))
  have HI4 : Hid (Bx w3.heap.size [.int .i64 W, .int .i64 H, .slice x3 m c] (w3.alloc (.cells #[.int .i64 W, .int .i64 H, .slice x3 m c] 26))) := Bx.new [.int .i64 W, .int .i64 H, .slice x3 m c] _ _
  have HC4 := hide (hc3.below hb4)
  have HK4 : Hid (Kept p w2 (w3.alloc (.cells #[.int .i64 W, .int .i64 H, .slice x3 m c] 26))) := hk3.trans (Kept.of_below hb4)
  have HO4 := hide (ho.below' hb4)
  have HN : Hid (m ≤ 101 ∧ (m = 0 ∨ (w2.heap.size ≤ b3 ∧ b3 ≠ p)) ∧ w3.heap.size < (w3.alloc (.cells #[.int .i64 W, .int .i64 H, .slice x3 m c] 26)).heap.size ∧ p < w3.heap.size) := ⟨hm, hb3, by simp, by have := HZ.out; omega⟩
  clear cM ho hb3 hc3 hk3 hm HX2 hb4
  go_upto_region 3 with fail
  generalize hw4 : w3.alloc (.cells #[.int .i64 W, .int .i64 H, .slice x3 m c] 26) = w4 at *
  clear hw4
  generalize w3.heap.size = I at *
  have hIp : I ≠ p := by have := HN.out; omega
  have hRp : w.heap.size ≠ p := by have := HZ.out; omega
  have hIR : ¬ w.heap.size = I := by have := HN.out; have := HZ.out; omega
  have HPW : Hid (p < w4.heap.size ∧ w.heap.size < w4.heap.size) := by have := HN.out; have := HZ.out; show _ ∧ _; omega
  have HAW : Hid (∀ wz : World, w4.heap.size ≤ wz.heap.size → len = 0 ∨ ∀ b off, a = some ⟨b, off, none⟩ → b < wz.heap.size) := fun wz hz => HAB.out.imp id fun h b off e => by have := h b off e; have := HPW.out; omega
  have HB4 : Hid (Below w.heap.size w w4) := (HB.out.trans (HB2.out.mono (by have := HZ.out; omega))).trans (HK4.out.below (by have := HZ.out; omega) (by have := HZ.out; omega))
  have HR0 : Hid (dR p a len cap w w4.heap.size w.heap.size I W H x3 b3 m c f (fun _ => undef) w4.drew) := ⟨HC4.out.drewN 1, HB4.out.drew, HO4.out.below' (Below.refl _ _).drew, HI4.out.kept ((Kept.refl p w4).drewN 1) hIp, ⟨_, _, _, HX4.out.kept ((Kept.refl p w4).drewN 1) hRp, fun h => absurd rfl h⟩, Nat.le_refl _⟩
  have HBp : Hid (m = 0 ∨ b3 ≠ p) := HN.out.2.1.imp id fun h => h.2
  have HBR : Hid (m = 0 ∨ b3 ≠ w.heap.size) := HN.out.2.1.imp id fun h => by have := HZ.out; omega
  have HAB2 : Hid (len = 0 ∨ ∀ b off, a = some ⟨b, off, none⟩ → b ≠ w.heap.size) := HABR.out
  have HP0 : Hid (w.heap.size ≤ p) := by have := HZ.out; show _ ≤ _; omega
  have HM : Hid (m ≤ 101) := HN.out.1
  clear HX4 HI4 HB HB2 HK4 HC4 HO4 HB4 HN HZ HAB
  generalize hR : w.heap.size = R at hRp hIR HPW HR0 HBR HAB2 ⊢
  have HR := hide hR
  clear hR
  refine region_opsV (dR p a len cap w w4.heap.size R I W H x3 b3 m c f) (dF p w4.heap.size W H x3 m c) (by kernel_rfl) (by kernel_rfl) (by kernel_rfl) (by kernel_rfl) ?_ ?_ ?_
  · obtain ⟨v0, v1, v2, h1, -⟩ := HR0.out.res
    exact ⟨HR0.out.cur, HR0.out.below, HR0.out.ow, HR0.out.src, ⟨v0, v1, v2, h1, fun h => absurd (by kernel_rfl) h⟩, HR0.out.sz⟩
  · refine ⟨?_, ?_, ?_, ?_, ?_, trivial⟩
    · intro u w21 au hsl hel hu hF hp' K hK
      have t5 : au.tmps[5]?.getD undef = .pointer (some ⟨I, 0, none⟩) := (hel.out 5 (by kernel_rfl)).trans (by kernel_rfl)
      obtain ⟨i0, -⟩ := hF.src 0 _ rfl
      obtain ⟨i1, -⟩ := hF.src 1 _ rfl
      obtain ⟨i2, -⟩ := hF.src 2 _ rfl
      refine step_plain rfl ?_
      go_simp
      exact hK.out (im W H x3 m c) _ (dR_up hF hF.cur (Kept.refl _ _) HP0.out hIp hRp HBp.out 0 (by omega) _) ⟨fun _ => upU_same _ _ _, fun e => absurd e (by omega), fun e => absurd e (by omega), fun e => absurd e (by omega), fun e => absurd e (by omega)⟩ (fun j hj hf h => dF_up (fun _ h => h) 0 _ j hj h)
    · intro u w21 au hsl hel hu hF hp' K hK
      have t4 : au.tmps[4]?.getD undef = .pointer (some ⟨p, 0, none⟩) := (hel.out 4 (by kernel_rfl)).trans (by kernel_rfl)
      refine step_plain rfl ?_
      go_simp
      exact hK.out (.pointer (some ⟨p, 0, none⟩)) _ (dR_up hF hF.cur (Kept.refl _ _) HP0.out hIp hRp HBp.out 1 (by omega) _) ⟨fun e => absurd e (by omega), fun _ => upU_same _ _ _, fun e => absurd e (by omega), fun e => absurd e (by omega), fun e => absurd e (by omega)⟩ (fun j hj hf h => dF_up (fun _ h => h) 1 _ j hj h)
    · intro u w21 au hsl hel hu hF hp' K hK
      have h1 : u 1 = .pointer (some ⟨p, 0, none⟩) := (PreF.get hp' 1 (by kernel_rfl)).2.1 rfl
      have t11 : au.tmps[11]?.getD undef = u 1 := hsl.out 1 11 (by kernel_rfl)
      rw [h1] at t11
      have hd := drawAnyBrush_any p a len cap w21 hF.cur (Nat.lt_of_lt_of_le HPW.out.1 hF.sz) (HAW.out w21 hF.sz)
      refine step_plain rfl ?_
      go_simp
      refine hd.mono ?_
      rintro e w22 ⟨v, rfl, m2, L2, hm2, ho2, hc2, hk2⟩
      exact hK.out v _ (dR_up hF hc2 hk2 HP0.out hIp hRp HBp.out 2 (by omega) _) ⟨fun e => absurd e (by omega), fun e => absurd e (by omega), fun _ => by rw [upU_same]; exact ⟨m2, L2, hm2, owns_monoT ho2 hF.sz⟩, fun e => absurd e (by omega), fun e => absurd e (by omega)⟩ (fun j hj hf h => dF_up (fun _ h => h.kept hk2 HPW.out.1) 2 _ j hj h)
    · intro u w21 au hsl hel hu hF hp' K hK
      have h0 : u 0 = im W H x3 m c := (PreF.get hp' 0 (by kernel_rfl)).1 rfl
      have t10 : au.tmps[10]?.getD undef = u 0 := hsl.out 0 10 (by kernel_rfl)
      rw [h0] at t10
      have t2 : au.tmps[2]?.getD undef = .pointer (some ⟨R, 0, none⟩) := (hel.out 2 (by kernel_rfl)).trans (by kernel_rfl)
      obtain ⟨v0, v1, v2, hx, -⟩ := hF.res
      obtain ⟨r0, s0⟩ := hx 0 _ rfl
      obtain ⟨r1, s1⟩ := hx 1 _ rfl
      obtain ⟨r2, s2⟩ := hx 2 _ rfl
      have hk : Kept R w21 (((w21.setCell ⟨R, 0, none⟩ (.int .i64 W)).setCell ⟨R, 1, none⟩ (.int .i64 H)).setCell ⟨R, 2, none⟩ (.slice x3 m c)) := (((Kept.refl R w21).setCell (a := ⟨R, 0, none⟩) rfl _).setCell (a := ⟨R, 1, none⟩) rfl _).setCell (a := ⟨R, 2, none⟩) rfl _
      have hcur : Cur p a len cap (((w21.setCell ⟨R, 0, none⟩ (.int .i64 W)).setCell ⟨R, 1, none⟩ (.int .i64 H)).setCell ⟨R, 2, none⟩ (.slice x3 m c)) := hF.cur.keptR hk hRp.symm (HAB2.out)
      have HS : Hid (dR p a len cap w w4.heap.size R I W H x3 b3 m c f (upU u 3 (.bool true)) (((w21.setCell ⟨R, 0, none⟩ (.int .i64 W)).setCell ⟨R, 1, none⟩ (.int .i64 H)).setCell ⟨R, 2, none⟩ (.slice x3 m c))) :=
        ⟨hcur, hF.below.trans (hk.below (by have := HR.out; omega) hF.below.size), OwV.keptO (x := (x3, b3, m, fun k => .int .i64 (f k))) hF.ow.v hk (fun h0 => HBR.out.resolve_left h0), hF.src.kept hk (by omega), ⟨_, _, _, ((hx.set 0 (.int .i64 W)).set 1 (.int .i64 H)).set 2 (.slice x3 m c), fun _ => ⟨rfl, rfl, rfl⟩⟩, Nat.le_trans hF.sz hk.size⟩
      have HK := hide hk
      clear hk hcur hx
      refine step_plain rfl ?_
      go_simp
      exact hK.out (.bool true) _ HS.out ⟨fun e => absurd e (by omega), fun e => absurd e (by omega), fun e => absurd e (by omega), fun _ => by rw [upU_same]; simp [undef], fun e => absurd e (by omega)⟩ (fun j hj hf h => dF_up (fun _ h => h.kept HK.out (by have := HPW.out; omega)) 3 _ j hj h)
    · intro u w21 au hsl hel hu hF hp' K hK
      have h2 := (PreF.get hp' 2 (by kernel_rfl)).2.2.1 rfl
      have t12 : au.tmps[12]?.getD undef = u 2 := hsl.out 2 12 (by kernel_rfl)
      refine step_plain rfl ?_
      go_simp
      exact hK.out (u 2) _ (dR_up hF hF.cur (Kept.refl _ _) HP0.out hIp hRp HBp.out 4 (by omega) _) ⟨fun e => absurd e (by omega), fun e => absurd e (by omega), fun e => absurd e (by omega), fun e => absurd e (by omega), fun _ => by rw [upU_same]; exact h2⟩ (fun j hj hf h => dF_up (fun _ h => h) 4 _ j hj h)
  · intro u w30 hF hall
    obtain ⟨v0, v1, v2, hx, hv⟩ := hF.res
    obtain ⟨rfl, rfl, rfl⟩ := hv ((hall 3 (by decide)).2.2.2.1 rfl)
    obtain ⟨m2, L2, hm2, ho2⟩ := (hall 4 (by decide)).2.2.2.2 rfl
    obtain ⟨a2, c2, h4, hc2⟩ := own_isS ho2
    rw [h4] at ho2
    obtain ⟨hpx, hz2⟩ := own_pxS ho2
    have HF : Hid (DDR w (.returned (.tuple #[im W H x3 m c, .slice a2 m2 c2])) w30) := ⟨W, H, x3, m, c, f, a2, m2, c2, _, rfl, HM.out, hm2, hc2, hF.ow.px, hpx, hz2, hF.below⟩
    obtain ⟨q0, -⟩ := hx 0 _ rfl
    obtain ⟨q1, -⟩ := hx 1 _ rfl
    obtain ⟨q2, -⟩ := hx 2 _ rfl
    clear hall hF hx ho2 hpx HR0 hv
    simp only [rgPut, Act.put]
    rw [h4]
    go_simp
    go_wp2_with fail
    exact bodyPost_ret (v := .tuple #[im W H x3 m c, .slice a2 m2 c2]) (by simp [results, Try.results5, go_sem, q0, q1, q2]) rfl HF.out

end Go.Proofs.Ytchbaegmkaibcaa
