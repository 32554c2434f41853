/- The draw of a flow. -/
import Derived.Test.YtfhfddmiiopgdaaDas
namespace Go.Proofs.Ytfhfddmiiopgdaa
open Go.RowKit

/-- orders that lie in a block of their own, to be written -/
def CeO (B : Nat) (fa : Option Addr) (n : Nat) (w : World) : Prop := n = 0 ∨ ∃ b, fa = some ⟨b, 0, none⟩ ∧ B ≤ b ∧ ∀ k, k < n * 4 → (∃ z : Int, w.cell? ⟨b, k, none⟩ = some (.int .i64 z)) ∧ w.frozen? ⟨b, k, none⟩ = false
theorem CeO.ofOw {B b n : Nat} {fa : Option Addr} {s : Nat → Int} {w : World} (h : Ow fa b (n * 4) s w) (hb : n * 4 = 0 ∨ B ≤ b) : CeO B fa n w := by
  by_cases h0 : n = 0
  · exact .inl h0
  · rcases h with h | ⟨rfl, h⟩
    · omega
    · exact .inr ⟨b, rfl, hb.resolve_left (by omega), fun k hk => ⟨⟨_, (h k hk).1⟩, (h k hk).2⟩⟩
theorem CeO.kept {B p n : Nat} {fa : Option Addr} {w w' : World} (h : CeO B fa n w) (hk : Kept p w w') (hp : p < B) : CeO B fa n w' := by
  rcases h with h | ⟨b, rfl, hb, h⟩
  · exact .inl h
  · refine .inr ⟨b, rfl, hb, fun k hk' => ?_⟩
    obtain ⟨⟨z, hz⟩, hf⟩ := h k hk'
    exact ⟨⟨z, hk.cell (show b ≠ p by omega) hz⟩, (hk.frozen (a := ⟨b, k, none⟩) (show b ≠ p by omega) hz).trans hf⟩
theorem CeO.other {B n : Nat} {fa : Option Addr} {w : World} (h : CeO B fa n w) (q : Addr) (hq : ∀ b, fa = some ⟨b, 0, none⟩ → b ≠ q.block) (u : Value) : CeO B fa n (w.setCell q u) := by
  rcases h with h | ⟨b, rfl, hb, h⟩
  · exact .inl h
  · refine .inr ⟨b, rfl, hb, fun k hk' => ?_⟩
    obtain ⟨⟨z, hz⟩, hf⟩ := h k hk'
    have e := Below.heap_setCell w q u b (hq b rfl)
    exact ⟨⟨z, (World.cell?_of_block (a := ⟨b, k, none⟩) e).trans hz⟩, (World.frozen?_of_block (a := ⟨b, k, none⟩) e).trans hf⟩
theorem CeO.lt {B n : Nat} {fa : Option Addr} {w : World} (h : CeO B fa n w) (hn : n ≠ 0) : ∃ b, fa = some ⟨b, 0, none⟩ ∧ B ≤ b ∧ b < w.heap.size ∧ ∀ k, k < n * 4 → (∃ z : Int, w.cell? ⟨b, k, none⟩ = some (.int .i64 z)) ∧ w.frozen? ⟨b, k, none⟩ = false := by
  rcases h with h | ⟨b, rfl, hb, h⟩
  · exact absurd h hn
  · obtain ⟨⟨z, hz⟩, -⟩ := h 0 (by omega)
    exact ⟨b, rfl, hb, World.block_lt_of_cell? _ _ hz, h⟩
/-- a flow whose orders grow, in the box X, beside the cursor -/
structure GF (p : Nat) (a : Option Addr) (len cap : Nat) (w : World) (X : Nat) (c : Int) (v : Value) (m : Nat) (L : List Int) (wr : World) : Prop where
  fl : FS w.heap.size X c v m L wr
  cur : Cur p a len cap wr
  kept : Kept p w wr
theorem GF.next {p : Nat} {a : Option Addr} {len cap : Nat} {w : World} {X : Nat} {c : Int} {v : Value} {m : Nat} {L : List Int} {wr w' : World} (h : GF p a len cap w X c v m L wr) (hp : p < w.heap.size) (hc : Cur p a len cap w') (hk : Kept p wr w') : GF p a len cap w X c v m L w' :=
  ⟨⟨h.fl.box.kept hk (by have := h.fl.hB; omega), owns_kept h.fl.own hk hp, h.fl.hB, h.fl.far, fun _ _ h => by cases h⟩, hc, h.kept.trans hk⟩
theorem GF.grown {p : Nat} {a : Option Addr} {len cap : Nat} {w : World} {X : Nat} {c : Int} {v v' : Value} {m m' : Nat} {L L' : List Int} {wr w' : World} (h : GF p a len cap w X c v m L wr) (hp : p < w.heap.size) (hab : len = 0 ∨ ∀ b off, a = some ⟨b, off, none⟩ → b < w.heap.size)
    (ho : w'.ownsRow w.heap.size 41 4 v' m' (ints L')) (hb : Below w.heap.size wr w') (hk : KpV v wr w') (hm : Moved v v' wr) :
    GF p a len cap w X c v' m' L' (w'.setCell ⟨X, 1, none⟩ v') ∧ w'.cell? ⟨X, 1, none⟩ = some v ∧ w'.frozen? ⟨X, 1, none⟩ = false := by
  have hX := h.fl.lt
  have hXB := h.fl.hB
  have hvX : v.ownBlock ≠ some X := fun e => h.fl.far X e rfl
  have bx : Bx X [.int .i64 c, v] w' := fun j u hj => by
    obtain ⟨h1, h2⟩ := h.fl.box j u hj
    exact ⟨(World.cell?_of_block (a := ⟨X, j, none⟩) (hk X hX hvX)).trans h1, (World.frozen?_of_block (a := ⟨X, j, none⟩) (hk X hX hvX)).trans h2⟩
  have hfar : ∀ b, v'.ownBlock = some b → b ≠ X := fun b hb' e => by
    subst e
    rcases hm b hb' with h3 | h3
    · exact hvX h3
    · omega
  exact ⟨⟨⟨bx.set 1 v', owns_set ho (q := ⟨X, 1, none⟩) hfar _, hXB, hfar, fun _ _ h => by cases h⟩, (h.cur.belowB hb hp hab).setFar (q := ⟨X, 1, none⟩) hXB hp hab _, (h.kept.belowB hb (Nat.le_refl _)).setNew' (a := ⟨X, 1, none⟩) hXB _⟩, (bx 1 _ rfl).1, (bx 1 _ rfl).2⟩

theorem growOr (w : World) {ops : Array Oper} {rest : List Oper} {o : Oper} {a : Act} {Q : Exit → Act → World → Prop} (hgd : o.guard = none) (s x : Operand)
    (ho : o.op = .call { callee := .builtin .append, args := #[s, x], argTypes := #[26, 26] }) (B : Nat) (v : Value) (n : Nat) (L : List Int) (hs : a.eval s = v) (w0 : World) (hown : w.ownsRow B 41 4 v n (ints L))
    (hb : Below B w0 w) (hB : B ≤ w.heap.size) (x0 x1 x2 x3 : Int) (hx : a.eval x = .slice (some ⟨w.heap.size, 0, none⟩) 1 1) (hn : n ≤ 1048576)
    (h : ∀ v' w', w'.ownsRow B 41 4 v' (n + 1) (ints (L ++ [x0, x1, x2, x3])) → Below B w0 w' → w.heap.size < w'.heap.size → KpV v w w' → Moved v v' w → wpList Try.prog ops Q rest (a.put o.dst v') w') :
    wpList Try.prog ops Q (o :: rest) a (w.alloc (.cells #[.int .i64 x0, .int .i64 x1, .int .i64 x2, .int .i64 x3] 41)) := by
  obtain ⟨ti, hi1, hi2, hi3, hi4⟩ := infoO
  exact growM w hgd s x 26 ho B 41 ti (vOrder 0 0 0 0) 4 32 Try.underlying26 hi1 hi2 hi3 hi4 rfl (by omega) v n L hs w0 hown hb hB [x0, x1, x2, x3] 1 1 hx rfl (by omega) (by unfold maxLen; omega) (by omega) h
theorem lit2 {w : World} {x0 x1 : Int} (Y : Nat) (h : Y < 2) : ∃ z : Int, (w.alloc (.cells #[.int .i64 x0, .int .i64 x1] 2)).cell? ⟨w.heap.size, Y, none⟩ = some (.int .i64 z) := by
  have : Y = 0 ∨ Y = 1 := by omega
  rcases this with rfl | rfl <;> exact ⟨_, by simp [go_sem]; rfl⟩

set_option maxRecDepth 100000 in
set_option maxHeartbeats 4000000 in
theorem drawFlow_any (p : Nat) (a : Option Addr) (len cap : Nat) (w : World) (h : Cur p a len cap w) (hp : p < w.heap.size) (hab : len = 0 ∨ ∀ b off, a = some ⟨b, off, none⟩ → b < w.heap.size) :
    Calls Try.prog 16 #[.pointer (some ⟨p, 0, none⟩)] w fun e w' => ∃ c fa n cp, e = .returned (vFlow c fa n cp) ∧ n ≤ 500 ∧ CeO w.heap.size fa n w' ∧ Cur p a len cap w' ∧ Kept p w w' := by
  obtain ⟨w1, hw1⟩ : ∃ w1, w1 = w.alloc (.cells #[.int .i64 0, .slice none 0 0] 28) := ⟨_, rfl⟩
  have hb1 : Below w.heap.size w w1 := by rw [hw1]; exact bnew _ _
  have HR : Hid (Bx w.heap.size [.int .i64 0, .slice none 0 0] w1) := by rw [hw1]; exact Bx.new [.int .i64 0, .slice none 0 0] 28 w
  have hs1 : w.heap.size < w1.heap.size := by rw [hw1]; simp
  have hp1 : p < w1.heap.size := Nat.lt_trans hp hs1
  have HAB1 : Hid (len = 0 ∨ ∀ b off, a = some ⟨b, off, none⟩ → b < w1.heap.size) := hab.imp id fun h b off e => Nat.lt_trans (h b off e) hs1
  have HK1 := hide (Kept.of_below (p := p) hb1)
  have hw1' := hw1.symm
  have cA := drawActs_any p a len cap w1 (h.below hb1) hp1 HAB1.out
  have hne : w.heap.size ≠ p := by omega
  clear h hw1 hb1
  go_enter Try.func16, Try.ntmps16
  go_wp2_with fail
  refine cA.mono ?_
  rintro e w2 ⟨v, m, L, rfl, hm, hG⟩
  obtain ⟨ad, cp, rfl, -, hpx⟩ := own_pxG hG.own
  have HG := hide hG
  have cP := specFlowPlay_any ad m cp _ (by omega) w2 hpx
  clear cA hpx hG hw1'
  go_wp2_with fail
  refine cP.mono ?_
  unfold FlP
  rintro e w3 ⟨fa, fc, fb, ca, cc, cb, rfl, how, hbb, -, -, -, hb3, -⟩
  have hn5 := fpN_le (fun k => L.getD k 0) m
  generalize fpN (fun k => L.getD k 0) m = n at *
  generalize fpK (fun k => L.getD k 0) m = c at *
  obtain ⟨w4, hw4⟩ : ∃ w4, w4 = w3.alloc (.cells #[.int .i64 c, .slice fa n fc] 28) := ⟨_, rfl⟩
  have hb4 : Below w2.heap.size w2 w4 := by rw [hw4]; exact hb3.alloc hb3.size _
  have HX4 : Hid (Bx w3.heap.size [.int .i64 c, .slice fa n fc] w4) := by rw [hw4]; exact Bx.new [.int .i64 c, .slice fa n fc] 28 w3
  have HC4 := hide (HG.out.cur.below hb4)
  have HK4 := hide (HG.out.kept.trans (Kept.of_below hb4))
  have HO4 : Hid (CeO w1.heap.size fa n w4) := by
    rw [hw4]
    exact CeO.ofOw (how.below' (bnew _ _)) (hbb.imp id (Nat.le_trans HG.out.kept.size))
  have HXs : Hid (w1.heap.size ≤ w3.heap.size) := Nat.le_trans HG.out.kept.size hb3.size
  have HXo : Hid (∀ b, fa = some ⟨b, 0, none⟩ → n ≠ 0 → b ≠ w3.heap.size) := fun b hf h0 => by
    rcases how with h | ⟨hf', h⟩
    · omega
    · rw [hf] at hf'
      cases hf'
      exact Nat.ne_of_lt (World.block_lt_of_cell? w3 ⟨_, 0, none⟩ (h 0 (by omega)).1)
  have hw4' := hw4.symm
  clear cP how hbb hb3 HG hw4 hb4
  go_upto_region 2 with fail
  clear hw4'
  generalize w3.heap.size = X at *
  have hXp : X ≠ p := by have := HXs.out; omega
  have cO := once_any p a len cap w4 HC4.out 30 (by omega) (by omega)
  go_wp2_with fail
  refine cO.mono ?_
  rintro e w5 ⟨q, rfl, hc, hk⟩
  replace HX4 := hide (HX4.out.kept hk hXp)
  replace HO4 := hide (HO4.out.kept hk hp1)
  replace HC4 := hide hc
  replace HK4 := hide (HK4.out.trans hk)
  clear cO hc hk
  go_upto_if 13 with fail
  go_cut [] (fun wc => ∃ c fa n fc, n ≤ 500 ∧ Bx X [.int .i64 c, .slice fa n fc] wc ∧ CeO w1.heap.size fa n wc ∧ Cur p a len cap wc ∧ Kept p w1 wc)
  case first =>
    cases q
    · go_wp2_with fail
      go_meet
      exact ⟨c, fa, n, fc, hn5, HX4.out, HO4.out, HC4.out, HK4.out⟩
    · obtain ⟨wl, hwl⟩ : ∃ wl, wl = w5.alloc (.cells #[.int .i64 0, .int .i64 1000000000] 2) := ⟨_, rfl⟩
      have hb : Below w5.heap.size w5 wl := by rw [hwl]; exact bnew _ _
      have HL : Hid (∀ Y, Y < 2 → ∃ z, wl.cell? ⟨w5.heap.size, Y, none⟩ = some (.int .i64 z)) := fun Y hY => by rw [hwl]; exact lit2 Y hY
      have hwl' := hwl.symm
      have hlp : w5.heap.size ≠ p := by have := HK4.out.size; omega
      have c2 := below_any p a len cap wl (HC4.out.below hb) 2 (by omega) (by omega)
      replace HX4 := hide (HX4.out.kept (Kept.of_below (p := p) hb) hXp)
      replace HK4 := hide (HK4.out.trans (Kept.of_below hb))
      clear hwl hb HO4 HXo HC4
      go_wp2_with fail
      refine c2.mono ?_
      rintro e w6 ⟨k, rfl, k0, k1, hc, hk⟩
      obtain ⟨Y, rfl⟩ : ∃ Y : Nat, k = Y := ⟨k.toNat, by omega⟩
      have hY : (Y : Int) < 2 := by omega
      obtain ⟨cl, hv⟩ := HL.out Y (by omega)
      have hv6 := hk.cell (a := ⟨w5.heap.size, Y, none⟩) hlp hv
      have hX6 := HX4.out.kept hk hXp
      obtain ⟨z0, f0⟩ := hX6 0 _ rfl
      obtain ⟨z1, f1⟩ := hX6 1 _ rfl
      have HG : Hid (GF p a len cap w1 X cl (.slice none 0 0) 0 [] ((w6.setCell ⟨X, 0, none⟩ (.int .i64 cl)).setCell ⟨X, 1, none⟩ (.slice none 0 0))) :=
        ⟨⟨(hX6.set 0 (.int .i64 cl)).set 1 (.slice none 0 0), ⟨rfl, .inl ⟨rfl, rfl⟩⟩, HXs.out, (fun b hb => by cases hb), fun _ _ h => by cases h⟩, (hc.setFar (q := ⟨X, 0, none⟩) HXs.out hp1 HAB1.out _).setFar (q := ⟨X, 1, none⟩) HXs.out hp1 HAB1.out _, ((HK4.out.trans hk).setNew' (a := ⟨X, 0, none⟩) HXs.out _).setNew' (a := ⟨X, 1, none⟩) HXs.out _⟩
      clear c2 hc hk HX4 HK4 hX6 HL hv k0 k1 hwl' hlp
      go_upto_region 4 with fail
      generalize (w6.setCell ⟨X, 0, none⟩ (.int .i64 cl)).setCell ⟨X, 1, none⟩ (.slice none 0 0) = w7 at *
      clear hv6 z0 z1 f0 f1 hY
      go_wp2_with fail
      go_loopw [5] (fun i wr => ∃ (k : Nat) (v : Value) (L : List Int), k ≤ 500 ∧ i = .int .i64 k ∧ GF p a len cap w1 X cl v k L wr) (fun i _ => 500 - (intOf i).toNat)
      case atStart => exact ⟨0, _, [], by omega, rfl, HG.out⟩
      case round =>
        obtain ⟨k, v, L', hk5, rfl, hG⟩ := hrel
        have HGk := hide hG
        clear hG HG
        have c2 := below_any p a len cap _ HGk.out.cur 2 (by omega) (by omega)
        go_wp2_with fail
        refine c2.mono ?_
        rintro e w8 ⟨y, rfl, y0, y1, hc, hk⟩
        have HG8 := hide (HGk.out.next hp1 hc hk)
        clear c2 hc hk HGk
        have HS8 : Hid (w1.heap.size ≤ w8.heap.size) := HG8.out.kept.size
        by_cases hlt : (k : Int) < 500 - y
        · have x1 := (HG8.out.fl.box 1 _ rfl).1
          go_wp2_with (refine growOr _ rfl _ _ rfl w1.heap.size v k L' rfl w8 HG8.out.fl.own (Below.refl _ _) HS8.out (2 * (k : Int)) 1 1000000000 0 rfl (by omega) ?_)
          intro v' w' ho' hb' _ hkp hmv
          obtain ⟨ad', cp', rfl, -, -⟩ := own_pxO ho'
          obtain ⟨hG9, t1, e1⟩ := HG8.out.grown hp1 HAB1.out ho' hb' hkp hmv
          have HG9 := hide hG9
          clear ho' hb' hkp hmv HG8 HS8 x1 hG9
          go_wp2_with fail
          exact ⟨⟨k + 1, _, _, by omega, rfl, HG9.out⟩, by simp [intOf]; omega⟩
        · obtain ⟨a', cp', b', ha, how, hbb, -⟩ := ow_O HG8.out.fl.own
          subst ha
          have HE : Hid (Bx X [.int .i64 cl, .slice a' k cp'] w8 ∧ CeO w1.heap.size a' k w8 ∧ Cur p a len cap w8 ∧ Kept p w1 w8) := ⟨HG8.out.fl.box, CeO.ofOw how hbb, HG8.out.cur, HG8.out.kept⟩
          clear how hbb HG8 HS8
          go_wp2_with fail
          go_meet
          exact ⟨cl, a', k, cp', by omega, HE.out.1, HE.out.2.1, HE.out.2.2.1, HE.out.2.2.2⟩
  case rest =>
    obtain ⟨c', fa', n', fc', hn', hX, hO, hc, hk⟩ := hcut
    have hR := HR.out.kept hk hne
    obtain ⟨z0, -⟩ := hX 0 _ rfl
    obtain ⟨z1, -⟩ := hX 1 _ rfl
    obtain ⟨r0, f0⟩ := hR 0 _ rfl
    obtain ⟨r1, f1⟩ := hR 1 _ rfl
    have hE := (hR.set 0 (.int .i64 c')).set 1 (.slice fa' n' fc')
    have d0 := (hE 0 _ rfl).1
    have d1 := (hE 1 _ rfl).1
    have HV : Hid (CeO w.heap.size fa' n' ((wc.setCell ⟨w.heap.size, 0, none⟩ (.int .i64 c')).setCell ⟨w.heap.size, 1, none⟩ (.slice fa' n' fc')) ∧ Cur p a len cap ((wc.setCell ⟨w.heap.size, 0, none⟩ (.int .i64 c')).setCell ⟨w.heap.size, 1, none⟩ (.slice fa' n' fc')) ∧ Kept p w ((wc.setCell ⟨w.heap.size, 0, none⟩ (.int .i64 c')).setCell ⟨w.heap.size, 1, none⟩ (.slice fa' n' fc'))) := by
      refine ⟨?_, (hc.setFar (q := ⟨w.heap.size, 0, none⟩) (Nat.le_refl _) hp hab _).setFar (q := ⟨w.heap.size, 1, none⟩) (Nat.le_refl _) hp hab _, ((HK1.out.trans hk).setNew' (a := ⟨w.heap.size, 0, none⟩) (Nat.le_refl _) _).setNew' (a := ⟨w.heap.size, 1, none⟩) (Nat.le_refl _) _⟩
      rcases hO with h | ⟨b, rfl, hb, h⟩
      · exact .inl h
      · have hO' : CeO w.heap.size (some ⟨b, 0, none⟩) n' wc := .inr ⟨b, rfl, by omega, h⟩
        exact (hO'.other ⟨w.heap.size, 0, none⟩ (fun b' e => by cases e; show b ≠ w.heap.size; omega) _).other ⟨w.heap.size, 1, none⟩ (fun b' e => by cases e; show b ≠ w.heap.size; omega) _
    clear hX hO hc hk hR hE HX4 HO4 HC4 HK4 HR
    go_wp2_with fail
    exact bodyPost_ret (v := vFlow c' fa' n' fc') (by simp [results, Try.results16, go_sem, d0, d1]) rfl ⟨c', fa', n', fc', rfl, hn', HV.out⟩

end Go.Proofs.Ytfhfddmiiopgdaa
