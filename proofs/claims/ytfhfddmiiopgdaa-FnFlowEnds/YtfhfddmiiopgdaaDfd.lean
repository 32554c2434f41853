/- The draw of a flow and an act. -/
import Derived.Test.YtfhfddmiiopgdaaDfs
namespace Go.Proofs.Ytfhfddmiiopgdaa
open Go.RowKit

theorem Cur.other {p : Nat} {a : Option Addr} {len cap : Nat} {w : World} (h : Cur p a len cap w) (q : Addr) (hq : p ≠ q.block) (hab : len = 0 ∨ ∀ b off, a = some ⟨b, off, none⟩ → b ≠ q.block) (v : Value) : Cur p a len cap (w.setCell q v) := by
  have e : ∀ k, k ≠ q.block → (w.setCell q v).heap[k]? = w.heap[k]? := fun k hk => Below.heap_setCell w q v k hk
  obtain ⟨h0, ⟨i, hi, h1⟩, ⟨y, h2⟩, f1, f2, hs, hby⟩ := h
  refine ⟨(World.cell?_of_block (a := ⟨p, 0, none⟩) (e p hq)).trans h0, ⟨i, hi, (World.cell?_of_block (a := ⟨p, 1, none⟩) (e p hq)).trans h1⟩, ⟨y, (World.cell?_of_block (a := ⟨p, 2, none⟩) (e p hq)).trans h2⟩, (World.frozen?_of_block (a := ⟨p, 1, none⟩) (e p hq)).trans f1, (World.frozen?_of_block (a := ⟨p, 2, none⟩) (e p hq)).trans f2, hs, ?_⟩
  rcases hab with h0 | hab
  · exact .inl h0
  · rcases hby with h | ⟨b, off, ha, hne, h⟩
    · exact .inl h
    · refine .inr ⟨b, off, ha, hne, fun k hk => ?_⟩
      obtain ⟨z, z0, z1, hz⟩ := h k hk
      exact ⟨z, z0, z1, (World.cell?_of_block (a := ⟨b, off + k, none⟩) (e b (hab b off ha))).trans hz⟩
theorem Cur.lt {p : Nat} {a : Option Addr} {len cap : Nat} {w : World} (h : Cur p a len cap w) : p < w.heap.size := by
  obtain ⟨h0, -⟩ := h
  exact World.block_lt_of_cell? _ _ h0

/-- what the operations leave -/
def dfdG (p : Nat) (c : Int) (fa : Option Addr) (n cp : Nat) : Nat → Value → Prop
  | 0, v => v = vFlow c fa n cp
  | 1, v => v = .pointer (some ⟨p, 0, none⟩)
  | 2, v => ∃ x y z, v = vAct x y z
  | _, _ => True
/-- the boxes while the answers are laid -/
structure DfR (w : World) (p : Nat) (a : Option Addr) (len cap FB : Nat) (c : Int) (fa : Option Addr) (n cp : Nat) (wr : World) : Prop where
  cur : Cur p a len cap wr
  bel : Below w.heap.size w wr
  fb : Bx FB [.int .i64 c, .slice fa n cp] wr
  r1 : ∃ (c1 : Int) (a1 : Option Addr) (n1 k1 : Nat), Bx w.heap.size [.int .i64 c1, .slice a1 n1 k1] wr
  r2 : ∃ x y z : Int, Bx (w.heap.size + 1) [.int .i64 x, .int .i64 y, .int .i64 z] wr
theorem DfR.kept {w : World} {p : Nat} {a : Option Addr} {len cap FB : Nat} {c : Int} {fa : Option Addr} {n cp : Nat} {wr w' : World} (h : DfR w p a len cap FB c fa n cp wr) (hp : w.heap.size + 1 < p) (hF : FB ≠ p) (hc : Cur p a len cap w') (hk : Kept p wr w') : DfR w p a len cap FB c fa n cp w' := by
  obtain ⟨c1, a1, n1, k1, h1⟩ := h.r1
  obtain ⟨x, y, z, h2⟩ := h.r2
  exact ⟨hc, h.bel.trans (hk.below (by omega) h.bel.size), h.fb.kept hk hF, ⟨c1, a1, n1, k1, h1.kept hk (by omega)⟩, ⟨x, y, z, h2.kept hk (by omega)⟩⟩
theorem DfR.put1 {w : World} {p : Nat} {a : Option Addr} {len cap FB : Nat} {c : Int} {fa : Option Addr} {n cp : Nat} {wr : World} (h : DfR w p a len cap FB c fa n cp wr) (hp : w.heap.size + 1 < p) (hF : w.heap.size + 1 < FB) (hab : len = 0 ∨ ∀ b off, a = some ⟨b, off, none⟩ → b < w.heap.size) (c1 : Int) (a1 : Option Addr) (n1 k1 : Nat) :
    DfR w p a len cap FB c fa n cp ((wr.setCell ⟨w.heap.size, 0, none⟩ (.int .i64 c1)).setCell ⟨w.heap.size, 1, none⟩ (.slice a1 n1 k1)) := by
  obtain ⟨d1, e1, m1, l1, h1⟩ := h.r1
  obtain ⟨x, y, z, h2⟩ := h.r2
  have hb : len = 0 ∨ ∀ b off, a = some ⟨b, off, none⟩ → b ≠ w.heap.size := hab.imp id fun h b off e => Nat.ne_of_lt (h b off e)
  have k2 := ((Kept.refl w.heap.size wr).setCell (a := ⟨w.heap.size, 0, none⟩) rfl (.int .i64 c1)).setCell (a := ⟨w.heap.size, 1, none⟩) rfl (.slice a1 n1 k1)
  exact ⟨(h.cur.other ⟨w.heap.size, 0, none⟩ (show p ≠ w.heap.size by omega) hb _).other ⟨w.heap.size, 1, none⟩ (show p ≠ w.heap.size by omega) hb _, (h.bel.setCell (Nat.le_refl _) _).setCell (Nat.le_refl _) _, h.fb.kept k2 (by omega), ⟨_, _, _, _, (h1.set 0 (.int .i64 c1)).set 1 (.slice a1 n1 k1)⟩, ⟨x, y, z, h2.kept k2 (by omega)⟩⟩
theorem DfR.put2 {w : World} {p : Nat} {a : Option Addr} {len cap FB : Nat} {c : Int} {fa : Option Addr} {n cp : Nat} {wr : World} (h : DfR w p a len cap FB c fa n cp wr) (hp : w.heap.size + 1 < p) (hF : w.heap.size + 1 < FB) (hab : len = 0 ∨ ∀ b off, a = some ⟨b, off, none⟩ → b < w.heap.size) (x y z : Int) :
    DfR w p a len cap FB c fa n cp (((wr.setCell ⟨w.heap.size + 1, 0, none⟩ (.int .i64 x)).setCell ⟨w.heap.size + 1, 1, none⟩ (.int .i64 y)).setCell ⟨w.heap.size + 1, 2, none⟩ (.int .i64 z)) := by
  obtain ⟨d1, e1, m1, l1, h1⟩ := h.r1
  obtain ⟨x', y', z', h2⟩ := h.r2
  have hb : len = 0 ∨ ∀ b off, a = some ⟨b, off, none⟩ → b ≠ w.heap.size + 1 := hab.imp id fun h b off e => by have := h b off e; omega
  have k2 := (((Kept.refl (w.heap.size + 1) wr).setCell (a := ⟨w.heap.size + 1, 0, none⟩) rfl (.int .i64 x)).setCell (a := ⟨w.heap.size + 1, 1, none⟩) rfl (.int .i64 y)).setCell (a := ⟨w.heap.size + 1, 2, none⟩) rfl (.int .i64 z)
  exact ⟨((h.cur.other ⟨w.heap.size + 1, 0, none⟩ (show p ≠ w.heap.size + 1 by omega) hb _).other ⟨w.heap.size + 1, 1, none⟩ (show p ≠ w.heap.size + 1 by omega) hb _).other ⟨w.heap.size + 1, 2, none⟩ (show p ≠ w.heap.size + 1 by omega) hb _, ((h.bel.setCell (Nat.le_succ _) _).setCell (Nat.le_succ _) _).setCell (Nat.le_succ _) _, h.fb.kept k2 (by omega), ⟨d1, e1, m1, l1, h1.kept k2 (by omega)⟩, ⟨x, y, z, ((h2.set 0 (.int .i64 x)).set 1 (.int .i64 y)).set 2 (.int .i64 z)⟩⟩

set_option maxRecDepth 100000 in
set_option maxHeartbeats 4000000 in
theorem drawFlowDo_any (a : Option Addr) (len cap : Nat) (w : World) (h : Bytes a len w) :
    Calls Try.prog 6 #[.slice a len cap] w fun e w' => ∃ c fa n cp kd id du, e = .returned (.tuple #[vFlow c fa n cp, vAct kd id du]) ∧ Below w.heap.size w w' := by
  obtain ⟨w1, hw1⟩ : ∃ w1, w1 = (w.alloc (.cells #[.int .i64 0, .slice none 0 0] 28)).alloc (.cells #[.int .i64 0, .int .i64 0, .int .i64 0] 30) := ⟨_, rfl⟩
  have HX : Hid (Bx w.heap.size [.int .i64 0, .slice none 0 0] w1 ∧ Bx (w.heap.size + 1) [.int .i64 0, .int .i64 0, .int .i64 0] w1 ∧ Below w.heap.size w w1 ∧ w.heap.size + 1 < w1.heap.size) := by
    rw [hw1]
    have hq : (w.alloc (.cells #[.int .i64 0, .slice none 0 0] 28)).heap.size = w.heap.size + 1 := by simp
    have hx := Bx.new [.int .i64 0, .int .i64 0, .int .i64 0] 30 (w.alloc (.cells #[.int .i64 0, .slice none 0 0] 28))
    rw [hq] at hx
    exact ⟨(Bx.new [.int .i64 0, .slice none 0 0] 28 w).below (bnew _ _) (by rw [hq]; omega), hx, (bnew w (.cells #[.int .i64 0, .slice none 0 0] 28)).alloc (by rw [hq]; omega) _, by simp⟩
  have hw1' := hw1.symm
  have HBy := hide (h.below HX.out.2.2.1)
  have HABw : Hid (len = 0 ∨ ∀ b off, a = some ⟨b, off, none⟩ → b < w.heap.size) := bytes_lt' h (Nat.le_refl _)
  have cN := new_any a len cap w1 HBy.out
  clear h hw1
  go_enter Try.func6, Try.ntmps6
  go_wp2_with fail
  refine cN.mono ?_
  rintro e w2 ⟨x, rfl, hw2⟩
  have hp2 : w1.heap.size < w2.heap.size := by rw [hw2]; simp
  have hb2 : Below w1.heap.size w1 w2 := by rw [hw2]; exact bnew _ _
  have hc2 : Cur w1.heap.size a len cap w2 := by rw [hw2]; exact cur_new a len cap w1 HBy.out x
  have hRp : w.heap.size + 1 < w1.heap.size := HX.out.2.2.2
  have HR1 := hide (HX.out.1.below hb2 (by omega))
  have HR2 := hide (HX.out.2.1.below hb2 (by omega))
  have HB2 : Hid (Below w.heap.size w w2) := HX.out.2.2.1.trans (hb2.mono (by omega))
  have HAB2 : Hid (len = 0 ∨ ∀ b off, a = some ⟨b, off, none⟩ → b < w2.heap.size) := HABw.out.imp id fun h b off e => by have := h b off e; omega
  have cF := drawFlow_any w1.heap.size a len cap w2 hc2 hp2 HAB2.out
  clear cN hw2 HBy HX hb2 hc2 hw1'
  generalize w1.heap.size = p at *
  go_wp2_with fail
  refine cF.mono ?_
  rintro e w3 ⟨c, fa, n, cp, rfl, hn5, hO, hc, hk⟩
  obtain ⟨w4, hw4⟩ : ∃ w4, w4 = w3.alloc (.cells #[.int .i64 c, .slice fa n cp] 28) := ⟨_, rfl⟩
  have hb4 : Below w3.heap.size w3 w4 := by rw [hw4]; exact bnew _ _
  have HK4 : Hid (Kept p w2 w4) := hk.trans (Kept.of_below hb4)
  have HO4 := hide (hO.kept (Kept.of_below (p := p) hb4) hp2)
  have HF4 : Hid (Bx w3.heap.size [.int .i64 c, .slice fa n cp] w4) := by rw [hw4]; exact Bx.new [.int .i64 c, .slice fa n cp] 28 w3
  have HC4 := hide (hc.below hb4)
  have HFo : Hid (∀ b, n ≠ 0 → fa = some ⟨b, 0, none⟩ → b ≠ w3.heap.size) := fun b h0 hf => by
    obtain ⟨b', hf', -, hl, -⟩ := hO.lt h0
    rw [hf] at hf'
    cases hf'
    omega
  have hFp : w3.heap.size ≠ p := by have := hc.lt; omega
  have HF2 : Hid (w2.heap.size ≤ w3.heap.size) := hk.size
  have hw4' := hw4.symm
  clear cF hw4 hb4 hO hc hk
  go_upto_region 3 with fail
  clear hw4'
  generalize w3.heap.size = FB at *
  have cO := once_any p a len cap w4 HC4.out 16 (by omega) (by omega)
  go_wp2_with fail
  refine cO.mono ?_
  rintro e w5 ⟨q, rfl, hc, hk⟩
  replace HK4 := hide (HK4.out.trans hk)
  replace HO4 := hide (HO4.out.kept hk hp2)
  replace HF4 := hide (HF4.out.kept hk hFp)
  replace HC4 := hide hc
  clear cO hc hk
  have HR : Hid (∀ w', Kept p w2 w' → Bx w.heap.size [.int .i64 0, .slice none 0 0] w' ∧ Bx (w.heap.size + 1) [.int .i64 0, .int .i64 0, .int .i64 0] w' ∧ Below w.heap.size w w') := fun w' hk => ⟨HR1.out.kept hk (by omega), HR2.out.kept hk (by omega), HB2.out.trans (hk.below (by omega) (by omega))⟩
  go_upto_if 11 with fail
  go_cut [] (fun wc => ∃ (c : Int) (fa : Option Addr) (n cp : Nat), DfR w p a len cap FB c fa n cp wc)
  case first =>
    cases q
    · have HE := hide (HR.out _ HK4.out)
      go_wp2_with fail
      go_meet
      exact ⟨c, fa, n, cp, HC4.out, HE.out.2.2, HF4.out, ⟨_, _, _, _, HE.out.1⟩, ⟨_, _, _, HE.out.2.1⟩⟩
    · have i0 := (HF4.out 0 _ rfl).1
      have i1 := (HF4.out 1 _ rfl).1
      have cS := spoil_any p a len cap w5 HC4.out w2.heap.size HK4.out.size hp2 HAB2.out c fa n cp hn5 HO4.out
      go_wp2_with fail
      refine cS.mono ?_
      rintro e w6 ⟨c', fa', n', cp', b, rfl, hc, hbp, hk⟩
      have hbF : FB ≠ b := by
        rcases hbp with h | ⟨h0, -, hf⟩
        · rw [h]; exact hFp
        · exact fun e => HFo.out b h0 hf e.symm
      have hb2 : w.heap.size + 1 < b := by
        rcases hbp with h | ⟨-, h, -⟩ <;> omega
      have hF6 := hk.bx HF4.out hFp hbF
      obtain ⟨f0, e0⟩ := hF6 0 _ rfl
      obtain ⟨f1, e1⟩ := hF6 1 _ rfl
      have hR5 := HR.out _ HK4.out
      have h16 := hk.bx hR5.1 (by omega) (by omega)
      have h26 := hk.bx hR5.2.1 (by omega) (by omega)
      have hB6 : Below w.heap.size w w6 := hR5.2.2.trans (hk.below (by omega) (by omega) hR5.2.2.size)
      have hFs : w2.heap.size ≤ FB := HF2.out
      have HE : Hid (DfR w p a len cap FB c' fa' n' cp' ((w6.setCell ⟨FB, 0, none⟩ (.int .i64 c')).setCell ⟨FB, 1, none⟩ (.slice fa' n' cp'))) := by
        have k1 := (Kept.refl FB w6).setCell (a := ⟨FB, 0, none⟩) rfl (.int .i64 c')
        have k2 := k1.setCell (a := ⟨FB, 1, none⟩) rfl (.slice fa' n' cp')
        exact ⟨(hc.setFar (B := w2.heap.size) (q := ⟨FB, 0, none⟩) hFs hp2 HAB2.out _).setFar (B := w2.heap.size) (q := ⟨FB, 1, none⟩) hFs hp2 HAB2.out _, hB6.trans (k2.below (by omega) hB6.size), (hF6.set 0 (.int .i64 c')).set 1 (.slice fa' n' cp'), ⟨_, _, _, _, h16.kept k2 (by omega)⟩, ⟨_, _, _, h26.kept k2 (by omega)⟩⟩
      clear cS hc hk hF6 hR5 h16 h26 hB6 hbp
      go_wp2_with fail
      go_meet
      exact ⟨c', fa', n', cp', HE.out⟩
  case rest =>
    obtain ⟨c', fa', n', cp', hD⟩ := hcut
    have HD := hide hD
    have hFR : w.heap.size + 1 < FB := by have := HF2.out; omega
    clear hD HR HK4 HO4 HF4 HC4 HFo HR1 HR2 HB2
    go_upto_region 5 with fail
    refine region_ops (fun w' => DfR w p a len cap FB c' fa' n' cp' w') (fun j u _ => dfdG p c' fa' n' cp' j (u j)) (by kernel_rfl) (by kernel_rfl) (by kernel_rfl) (HD.out.kept hRp hFp (HD.out.cur.drewN 1) ((Kept.refl _ _).drewN 1)) ?_ ?_
    · refine ⟨?_, ?_, ?_, ?_, ?_, trivial⟩
      · intro u w7 au hau _ hF hp' K hK
        have t5 : au.tmps[5]?.getD undef = .pointer (some ⟨FB, 0, none⟩) := by rw [hau.out]; kernel_rfl
        have x0 := (hF.fb 0 _ rfl).1
        have x1 := (hF.fb 1 _ rfl).1
        refine step_plain rfl ?_
        go_simp
        exact hK.out (vFlow c' fa' n' cp') _ hF (upU_same _ _ _) (fun j hj _ h => spo_stab j hj h)
      · intro u w7 au hau _ hF hp' K hK
        have t4 : au.tmps[4]?.getD undef = .pointer (some ⟨p, 0, none⟩) := by rw [hau.out]; kernel_rfl
        refine step_plain rfl ?_
        go_simp
        exact hK.out (.pointer (some ⟨p, 0, none⟩)) _ hF (upU_same _ _ _) (fun j hj _ h => spo_stab j hj h)
      · intro u w7 au hau _ hF hp' K hK
        have h1 : u 1 = .pointer (some ⟨p, 0, none⟩) := hp'.1
        have t16 : au.tmps[16]?.getD undef = u 1 := by rw [hau.out]; kernel_rfl
        rw [h1] at t16
        have cA := drawAct_any p a len cap w7 hF.cur hF.cur.lt (HABw.out.imp id fun h b off e => Nat.lt_of_lt_of_le (h b off e) hF.bel.size)
        refine step_plain rfl ?_
        go_simp
        refine cA.mono ?_
        rintro e w8 ⟨x0, x1, x2, rfl, hc, hk⟩
        exact hK.out (vAct x0 x1 x2) _ (hF.kept hRp hFp hc hk) ⟨x0, x1, x2, upU_same _ _ _⟩ (fun j hj _ h => spo_stab j hj h)
      · intro u w7 au hau _ hF hp' K hK
        have t2 : au.tmps[2]?.getD undef = .pointer (some ⟨w.heap.size, 0, none⟩) := by rw [hau.out]; kernel_rfl
        have h1 : u 0 = vFlow c' fa' n' cp' := hp'.1
        have t15 : au.tmps[15]?.getD undef = u 0 := by rw [hau.out]; kernel_rfl
        rw [h1] at t15
        obtain ⟨d1, e1, m1, l1, hr⟩ := hF.r1
        obtain ⟨r0, f0⟩ := hr 0 _ rfl
        obtain ⟨r1, f1⟩ := hr 1 _ rfl
        refine step_plain rfl ?_
        go_simp
        exact hK.out undef _ (hF.put1 hRp hFR HABw.out c' fa' n' cp') trivial (fun j hj _ h => spo_stab j hj h)
      · intro u w7 au hau _ hF hp' K hK
        have t3 : au.tmps[3]?.getD undef = .pointer (some ⟨w.heap.size + 1, 0, none⟩) := by rw [hau.out]; kernel_rfl
        obtain ⟨x, y, z, h1⟩ : ∃ x y z, u 2 = vAct x y z := hp'.1
        have t17 : au.tmps[17]?.getD undef = u 2 := by rw [hau.out]; kernel_rfl
        rw [h1] at t17
        obtain ⟨x', y', z', hr⟩ := hF.r2
        obtain ⟨r0, f0⟩ := hr 0 _ rfl
        obtain ⟨r1, f1⟩ := hr 1 _ rfl
        obtain ⟨r2, f2⟩ := hr 2 _ rfl
        refine step_plain rfl ?_
        go_simp
        exact hK.out undef _ (hF.put2 hRp hFR HABw.out x y z) trivial (fun j hj _ h => spo_stab j hj h)
    · intro u w7 hF hall
      obtain ⟨d1, e1, m1, l1, hr1⟩ := hF.r1
      obtain ⟨x, y, z, hr2⟩ := hF.r2
      have d0 := (hr1 0 _ rfl).1
      have d1' := (hr1 1 _ rfl).1
      have g0 := (hr2 0 _ rfl).1
      have g1 := (hr2 1 _ rfl).1
      have g2 := (hr2 2 _ rfl).1
      have HB := hide hF.bel
      simp only [rgPut, Act.put]
      go_simp
      clear hall hF hr1 hr2
      go_wp2_with fail
      exact bodyPost_ret (v := .tuple #[vFlow d1 e1 m1 l1, vAct x y z]) (by simp [results, Try.results6, go_sem, d0, d1', g0, g1, g2]) rfl ⟨_, _, _, _, x, y, z, rfl, HB.out⟩

end Go.Proofs.Ytfhfddmiiopgdaa
