/- Drawn offers and forms that are known: the walk. -/
import Derived.Test.YtgemdhhofflhgaaDai
import Derived.Laws.AppendOwnNone
import Derived.Deep.RegionWith
namespace Go.Proofs.Ytgemdhhofflhgaa
open Go.RowKit

theorem bytes_lt {a : Option Addr} {len : Nat} {w : World} (h : Bytes a len w) {B : Nat} (hB : w.heap.size ≤ B) : len = 0 ∨ ∀ b off, a = some ⟨b, off, none⟩ → b < B := by
  by_cases h0 : len = 0
  · exact .inl h0
  · refine .inr fun b off e => ?_
    rcases h.2 with h1 | ⟨b', off', ha, hb⟩
    · exact absurd h1 h0
    · obtain ⟨z, _, _, hz⟩ := hb 0 (by omega)
      rw [e] at ha
      cases ha
      exact Nat.lt_of_lt_of_le (World.block_lt_of_cell? w _ hz) hB

/-- offers and known forms are answered -/
def DAR (w : World) (e : Ending) (w' : World) : Prop := ∃ (a1 : Option Addr) (m c1 : Nat) (Bv : Nat → Int) (ad : Nat → Option Addr) (ln cp : Nat → Nat) (F : Nat → Nat → Int) (a2 : Option Addr) (n c2 : Nat) (g : Nat → Int), e = .returned (.tuple #[.slice a1 m c1, .slice a2 n c2]) ∧ m ≤ c1 ∧ m ≤ 1000 ∧ PxB a1 m ad ln cp F Bv w' ∧ (∀ i, i < m → ln i ≤ 8) ∧ Px a2 n g w' ∧ n ≤ 1000 ∧ Below w.heap.size w w'
theorem growCat' (w : World) {ops : Array Oper} {rest : List Oper} {o : Oper} {a : Act} {Q : Exit → Act → World → Prop} (hgd : o.guard = none) (s x : Operand)
    (ho : o.op = .call { callee := .builtin .append, args := #[s, x], argTypes := #[25, 25] }) (B : Nat) (v : Value) (n : Nat) (L : List Int) (hs : a.eval s = v) (w0 : World) (hown : w.ownsRow B 2 1 v n (ints L))
    (hb : Below B w0 w) (hB : B ≤ w.heap.size) (xv : Value) (B2 m : Nat) (M : List Int) (hx : a.eval x = xv) (hxo : w.ownsRow B2 2 1 xv m (ints M)) (hn : n + m ≤ 1048576)
    (h : ∀ v' w', w'.ownsRow B 2 1 v' (n + m) (ints (L ++ M)) → Below B w0 w' → wpList Try.prog ops Q rest (a.put o.dst v') w') :
    wpList Try.prog ops Q (o :: rest) a w := by
  obtain ⟨ti, hi1, hi2, hi3, hi4⟩ := info2
  have hxo' := hxo
  obtain ⟨hlen, hv | ⟨b, cap, cur, hv, hg, hcur, _, hm, _, _⟩⟩ := hxo'
  · obtain ⟨rfl, rfl⟩ := hv
    have hM : M = [] := List.eq_nil_of_length_eq_zero (by rw [ints_length] at hlen; omega)
    subst hM
    refine wpList_append_own_none hgd s x 25 ho B 2 ti 1 Try.underlying25 hi1 v n (ints L) hs hown hx ?_
    refine h v w ?_ hb
    rw [List.append_nil]; exact hown
  · subst hv
    have hM : M.length = m * 1 := by rw [ints_length] at hlen; exact hlen
    refine wpList_append_own _ hgd s x 25 ho B 2 ti (.int .i64 0) 1 8 Try.underlying25 hi1 hi2 hi3 hi4 rfl (by omega) v n (ints L) hs hown ⟨b, 0, none⟩ m cap (ints M) hx (by rw [ints_length]; exact hM) (fun j u hu => ?_) (ints_one M) (by unfold maxLen; omega) (by omega) hB ?_
    · have hj : j < M.length := by
        have := (List.getElem?_eq_some_iff.1 hu).1
        rwa [ints_length] at this
      rw [show (⟨b, 0, none⟩ : Addr).add j = ⟨b, j, none⟩ by have := add1 b 0 j; rwa [Nat.mul_one, Nat.zero_add] at this, hxo.cellAt j (by omega)]
      exact hu
    · intro v' w' h1 h2 _
      have hr3 : ∀ q, Value.ownBlock v = some q → B ≤ q := fun q hq => (hown.lt q hq).1
      refine h v' w' ?_ (hb.trans ((Below.refl _ _).grown h2 hB hr3))
      rw [ints_append]; exact h1

/-- how long a list is -/
def lnOf : Value → Nat
  | .slice _ n _ => n
  | _ => 0
theorem own_is {w : World} {B n m : Nat} {e : TypeId} {v : Value} {xs : List Value} (h : w.ownsRow B e m v n xs) : ∃ a cap, v = .slice a n cap := by
  obtain ⟨_, hv | ⟨b, cap, cur, hv, _⟩⟩ := h
  · obtain ⟨rfl, rfl⟩ := hv
    exact ⟨_, _, rfl⟩
  · exact ⟨_, _, hv⟩
theorem abLe {a : Option Addr} {len p q : Nat} (h : len = 0 ∨ ∀ b off, a = some ⟨b, off, none⟩ → b < p) (hq : p ≤ q) : len = 0 ∨ ∀ b off, a = some ⟨b, off, none⟩ → b < q := h.imp id fun h b off e => Nat.lt_of_lt_of_le (h b off e) hq
theorem Cur.setBox {p q i : Nat} {a : Option Addr} {len cap : Nat} {w : World} (h : Cur p a len cap w) (hp : p < q) (hab : len = 0 ∨ ∀ b off, a = some ⟨b, off, none⟩ → b < p) (hq : q + 1 ≤ w.heap.size) (v : Value) : Cur p a len cap (w.setCell ⟨q, i, none⟩ v) :=
  h.belowB ((Kept.setCell (Kept.refl q w) (a := ⟨q, i, none⟩) rfl v).below (Nat.le_refl _) (by omega)) hp (abLe hab (Nat.le_of_lt hp))

theorem Cur.kpv {p : Nat} {a : Option Addr} {len cap : Nat} {v : Value} {w w' : World} (h : Cur p a len cap w) (hk : KpV v w w') (hp : p < w.heap.size) (hv : v.ownBlock ≠ some p) (hB : ∀ b, v.ownBlock = some b → p ≤ b) (hab : len = 0 ∨ ∀ b off, a = some ⟨b, off, none⟩ → b < p) : Cur p a len cap w' := by
  obtain ⟨h0, ⟨i, hi, h1⟩, ⟨y, h2⟩, f1, f2, hs, hby⟩ := h
  have e : w'.heap[p]? = w.heap[p]? := hk p hp hv
  refine ⟨(World.cell?_of_block (a := ⟨p, 0, none⟩) e).trans h0, ⟨i, hi, (World.cell?_of_block (a := ⟨p, 1, none⟩) e).trans h1⟩, ⟨y, (World.cell?_of_block (a := ⟨p, 2, none⟩) e).trans h2⟩, (World.frozen?_of_block (a := ⟨p, 1, none⟩) e).trans f1, (World.frozen?_of_block (a := ⟨p, 2, none⟩) e).trans f2, hs, ?_⟩
  rcases hab with h0 | hab
  · exact .inl h0
  rcases hby with hby | ⟨b, off, ha, hne, hby⟩
  · exact .inl hby
  · refine .inr ⟨b, off, ha, hne, fun k hk' => ?_⟩
    obtain ⟨z, z0, z1, hz⟩ := hby k hk'
    have hbp := hab b off ha
    exact ⟨z, z0, z1, (World.cell?_of_block (a := ⟨b, off + k, none⟩) (hk b (by omega) (fun e => by have := hB b e; omega))).trans hz⟩
theorem OL.is {B p : Nat} {v : Value} {k : Nat} {w : World} (h : OL B p v k w) : ∃ a c, v = .slice a k c := by
  obtain ⟨Bv, ad, ln, cp, F, h1, h2, h3⟩ := h
  exact own_is h1
theorem OL.own {B p : Nat} {v : Value} {k : Nat} {w : World} (h : OL B p v k w) : v.ownBlock ≠ some p ∧ ∀ b, v.ownBlock = some b → B ≤ b ∧ b < w.heap.size := by
  obtain ⟨Bv, ad, ln, cp, F, h1, h2, h3⟩ := h
  exact ⟨h2, fun b hb => ⟨owns_ge h1 b hb, owns_lt h1 b hb⟩⟩

set_option maxRecDepth 100000 in
set_option maxHeartbeats 8000000 in
theorem drawAgree_any (a : Option Addr) (len cap : Nat) (w : World) (h : Bytes a len w) :
    Calls Try.prog 5 #[.slice a len cap] w (DAR w) := by
  have hn := new_any a len cap w h
  have HAB := hide (bytes_lt h (B := w.heap.size) (Nat.le_refl _))
  have HBY := hide h
  clear h
  go_enter Try.func5, Try.ntmps5
  go_wp2_with fail
  refine hn.mono ?_
  rintro e w1 ⟨x, rfl, rfl⟩
  have hc := cur_new a len cap w HBY.out x
  have HB1 : Hid (Below w.heap.size w (w.alloc (.cells #[.slice a len cap, .int .i64 0, .int .i64 x] 40))) := bnew _ _
  have HS1 : Hid (w.heap.size < (w.alloc (.cells #[.slice a len cap, .int .i64 0, .int .i64 x] 40)).heap.size) := by show _ < _; simp
  have HC1 := hide hc
  clear hn hc HBY
  generalize hpp : w.heap.size = p at *
  generalize hw1 : w.alloc (.cells #[.slice a len cap, .int .i64 0, .int .i64 x] 40) = w1 at *
  clear hw1
  have HC2 : Hid (Cur p a len cap (w1.alloc (.cells #[] 30))) := HC1.out.below (bnew _ _)
  have HO2 : Hid (OL p p (.slice (some ⟨w1.heap.size, 0, none⟩) 0 0) 0 (w1.alloc (.cells #[] 30))) := OL.nil p p w1 (Nat.le_of_lt HS1.out) HS1.out
  have HB2 : Hid (Below p w (w1.alloc (.cells #[] 30))) := HB1.out.alloc (Nat.le_of_lt HS1.out) _
  have HS2 : Hid (p < (w1.alloc (.cells #[] 30)).heap.size) := by have := HS1.out; show _ < _; simp; omega
  have c6 := below_any p a len cap _ HC2.out 6 (by omega) (by omega)
  clear HB1 HC1 HS1
  go_wp2_with fail
  generalize hw2 : w1.alloc (.cells #[] 30) = w2 at *
  clear hw2
  refine c6.mono ?_
  rintro e w3 ⟨x6, rfl, hx0, hx5, hc3, hk3⟩
  obtain ⟨N0, rfl⟩ : ∃ N0 : Nat, x6 = N0 := ⟨x6.toNat, by omega⟩
  have HC3 := hide hc3
  have HO3 := hide (HO2.out.kept hk3)
  have HB3 : Hid (Below p w w3) := HB2.out.trans (hk3.below (Nat.le_refl _) (Nat.le_of_lt HS2.out))
  have HS3 : Hid (p < w3.heap.size) := Nat.lt_of_lt_of_le HS2.out hk3.size
  clear c6 hc3 hk3 HO2 HC2 HB2 HS2 hx0
  generalize Value.slice (some ⟨w1.heap.size, 0, none⟩) 0 0 = v0 at *
  go_wp2_with fail
  go_loopw [5, 6] (fun v i wr => ∃ (k N : Nat), k + N ≤ 5 ∧ i = .int .i64 N ∧ OL p p v k wr ∧ Cur p a len cap wr ∧ Below p w wr ∧ p < wr.heap.size) (fun _ i _ => (intOf i).toNat)
  case atStart => exact ⟨0, N0, by omega, rfl, HO3.out, HC3.out, HB3.out, HS3.out⟩
  case round =>
    obtain ⟨k, N, hkN, rfl, ho, hc, hb, hs⟩ := hrel
    generalize wr = wr0 at *
    clear HO3 HC3 HB3 HS3
    have HO := hide ho
    have HC := hide hc
    have HB := hide hb
    have HS := hide hs
    clear ho hc hb hs
    cases N with
    | zero =>
      have q0 : ¬ (0 : Int) < ((0 : Nat) : Int) := by omega
      have HBx : Hid (Below wr0.heap.size wr0 (wr0.alloc (.cells #[] 2))) := bnew _ _
      have HCx : Hid (Cur p a len cap (wr0.alloc (.cells #[] 2))) := HC.out.below HBx.out
      have HNx : Hid ((wr0.alloc (.cells #[] 2)).ownsRow wr0.heap.size 2 1 (.slice (some ⟨wr0.heap.size, 0, none⟩) 0 0) 0 (ints [])) := World.ownsRow_lit wr0 #[] 0 (Nat.le_refl _) (by unfold maxLen; omega) rfl
      have c4 := below_any p a len cap _ HCx.out 4 (by omega) (by omega)
      go_wp2_with fail
      refine c4.mono ?_
      rintro e w4 ⟨x4, rfl, hx4, hx4', hc4, hk4⟩
      obtain ⟨M0, rfl⟩ : ∃ M0 : Nat, x4 = M0 := ⟨x4.toNat, by omega⟩
      have HK4 : Hid (Kept p wr0 w4) := (Kept.of_below HBx.out).trans hk4
      have HN4 : Hid (w4.ownsRow wr0.heap.size 2 1 (.slice (some ⟨wr0.heap.size, 0, none⟩) 0 0) 0 (ints [])) := owns_kept HNx.out hk4 HS.out
      have HC4 := hide hc4
      clear c4 hc4 hk4 HNx HCx HBx HC hx4
      generalize Value.slice (some ⟨wr0.heap.size, 0, none⟩) 0 0 = v9 at *
      go_wp2_with fail
      go_loopw [9, 10] (fun v i wq => ∃ (L : List Int) (M : Nat), L.length + M ≤ 3 ∧ i = .int .i64 M ∧ wq.ownsRow wr0.heap.size 2 1 v L.length (ints L) ∧ Kept p wr0 wq ∧ Cur p a len cap wq) (fun _ i _ => (intOf i).toNat)
      case atStart => exact ⟨[], M0, by simp; omega, rfl, HN4.out, HK4.out, HC4.out⟩
      case round =>
        obtain ⟨L, M, hLM, rfl, hn, hk, hc⟩ := hrel
        clear HN4 HK4 HC4
        have HN4 := hide hn
        have HK4 := hide hk
        have HC4 := hide hc
        clear hn hk hc
        cases M with
        | zero =>
          have q1 : ¬ (0 : Int) < ((0 : Nat) : Int) := by omega
          have hd := once_any p a len cap _ HC4.out 40 (by omega) (by omega)
          go_wp2_with fail
          refine hd.mono ?_
          rintro e w8 ⟨b8, rfl, hc8, hk8⟩
          have HK8 := hide (HK4.out.trans hk8)
          have HO8 := hide (HO.out.kept HK8.out)
          have HC8 := hide hc8
          have HN8 := hide (owns_kept HN4.out hk8 HS.out)
          have HB8 : Hid (Below p w w8) := HB.out.trans (HK8.out.below (Nat.le_refl _) (Nat.le_of_lt HS.out))
          have HS8 : Hid (p < w8.heap.size) := Nat.lt_of_lt_of_le HS.out HK8.out.size
          have HA8 : Hid (∀ b, u9.ownBlock = some b → u5.ownBlock ≠ some b) := fun b hb e => by
            have h1 := owns_ge HN8.out b hb
            have h2 := (HO.out.own.2 b e).2
            omega
          have HXp : Hid (p < wr0.heap.size) := HS.out
          clear hd hc8 hk8 HK4 HC4 HN4 HO HB HS HK8
          have HFin : ∀ (v' : Value) (k' : Nat) (w' : World), k' ≤ 1000 → OL p p v' k' w' → w'.ownsRow wr0.heap.size 2 1 u9 L.length (ints L) → Below p w w' → DAR w (.returned (.tuple #[v', u9])) w' := fun v' k' w' hk' ho hn hb => by
            obtain ⟨a1, c1, Bv, ad, ln, cp, F, rfl, hcap, hpx, hln⟩ := ho.out
            obtain ⟨a2, c2, e2⟩ := own_is hn
            refine ⟨a1, k', c1, Bv, ad, ln, cp, F, a2, L.length, c2, fun i => L.getD i 0, by rw [e2], hcap, hk', hpx, hln, ?_, by omega, by rw [hpp]; exact hb⟩
            by_cases h0 : L.length = 0
            · exact .inl h0
            · obtain ⟨b, cap', e, hB, hcl⟩ := own_partsL hn (by omega)
              rw [e2] at e
              cases e
              exact .inr ⟨b, 0, rfl, fun i hi => by rw [Nat.zero_add]; exact (hcl i hi).1⟩
          have HFin := hide HFin
          cases b8
          · go_wp2_with fail
            go_ret2
            exact HFin.out _ k _ (by omega) HO8.out HN8.out HB8.out
          · go_wp2_with fail
            go_loopw [5] (fun v wq => ∃ (k' : Nat), k' ≤ 65 ∧ OL p p v k' wq ∧ wq.ownsRow wr0.heap.size 2 1 u9 L.length (ints L) ∧ (∀ b, u9.ownBlock = some b → v.ownBlock ≠ some b) ∧ Cur p a len cap wq ∧ Below p w wq ∧ p < wq.heap.size) (fun v _ => 65 - lnOf v)
            case atStart => exact ⟨k, by omega, HO8.out, HN8.out, HA8.out, HC8.out, HB8.out, HS8.out⟩
            case round =>
              obtain ⟨k', hk', ho, hn, ha, hc, hb, hs⟩ := hrel
              obtain ⟨a5, c5, rfl⟩ := ho.is
              clear HO8 HN8 HA8 HC8 HB8 HS8
              have cB := below_any p a len cap _ hc 2 (by omega) (by omega)
              have HO9 := hide ho
              have HN9 := hide hn
              have HA9 := hide ha
              have HB9 := hide hb
              have HS9 := hide hs
              clear ho hn ha hc hb hs
              go_wp2_with fail
              refine cB.mono ?_
              rintro e w9 ⟨y, rfl, hy0, hy1, hc9, hk9⟩
              have hwy : IntKind.i64.wrap (64 + y) = 64 + y := by rw [IntKind.wrap_i64]; omega
              have HO10 := hide (HO9.out.kept hk9)
              have HN10 := hide (owns_keep HN9.out (fun b hb => hk9.block b (owns_lt HN9.out b hb) (fun e => by have := owns_ge HN9.out b hb; have := HXp.out; omega)))
              have HC10 := hide hc9
              have HB10 : Hid (Below p w w9) := HB9.out.trans (hk9.below (Nat.le_refl _) (Nat.le_of_lt HS9.out))
              have HS10 : Hid (p < w9.heap.size) := Nat.lt_of_lt_of_le HS9.out hk9.size
              clear cB hc9 hk9 HO9 HN9 HB9 HS9
              by_cases hlt : (k' : Int) < 64 + y
              · have HK65 : Hid (k' + 1 ≤ 65) := by clear hwy hx5 hx4' hkN hLM; show _ ≤ _; omega
                have HMs : Hid (65 - (k' + 1) < 65 - k') := by have := HK65.out; clear hwy hx5 hx4' hkN hLM hlt; show _ < _; omega
                have HBx : Hid (Below w9.heap.size w9 (w9.alloc (.cells #[.int .i64 2] 2))) := bnew _ _
                have HO11 := hide (HO10.out.kept (Kept.of_below HBx.out))
                have HB11 : Hid (Below p w (w9.alloc (.cells #[.int .i64 2] 2))) := HB10.out.alloc (Nat.le_of_lt HS10.out) _
                have HS11 : Hid (p < (w9.alloc (.cells #[.int .i64 2] 2)).heap.size) := Nat.lt_of_lt_of_le HS10.out HBx.out.size
                have HS11' : Hid (p ≤ (w9.alloc (.cells #[.int .i64 2] 2)).heap.size) := Nat.le_of_lt HS11.out
                have HF11 : Hid (FmO p p (.slice a5 k' c5) (some ⟨w9.heap.size, 0, none⟩) 1 (fun _ => 2) (w9.alloc (.cells #[.int .i64 2] 2))) := by
                  have := HS10.out
                  refine ⟨by omega, .inr ⟨w9.heap.size, rfl, by omega, by simp, by omega, fun e => ?_, fun i hi => ?_⟩⟩
                  · have := (HO10.out.own.2 _ e).2; omega
                  · obtain rfl : i = 0 := by omega
                    simp [go_sem]
                have HkN : Hid (k' ≤ 1048576) := by show _ ≤ _; omega
                have hw1 : IntKind.i64.wrap ((k' : Int) + 1) = (k' : Int) + 1 := by rw [IntKind.wrap_i64]; omega
                have hw2 : wrap64 ((k' : Int) + 1) = (k' : Int) + 1 := by unfold wrap64; omega
                go_upto_region 24 with fail
                go_wp2_with (refine growO (w9.alloc (.cells #[.int .i64 2] 2)) rfl (.tmp 77) (.tmp 83) (by rfl) p p _ k' (by rfl) w HO11.out HB11.out HS11'.out HS11.out ((k' : Int) + 1) (some ⟨w9.heap.size, 0, none⟩) 1 1 (fun _ => 2) HF11.out (by show Value.slice (some ⟨w9.heap.size + 1, 0, none⟩) 1 1 = _; simp) HkN.out ?_)
                intro v' w12 ho12 hb12 hs12 hkv hmv
                have hlt9 : ∀ b, u9.ownBlock = some b → b < (w9.alloc (.cells #[.int .i64 2] 2)).heap.size := fun b hb => Nat.lt_of_lt_of_le (owns_lt HN10.out b hb) HBx.out.size
                have HC12 := hide ((HC10.out.below HBx.out).kpv hkv HS11.out HO11.out.own.1 (fun b hb => (HO11.out.own.2 b hb).1) HAB.out)
                have HN12 := hide (owns_keep HN10.out (fun b hb => (hkv b (hlt9 b hb) (HA9.out b hb)).trans (HBx.out.block b (owns_lt HN10.out b hb))))
                have HA12 : Hid (∀ b, u9.ownBlock = some b → v'.ownBlock ≠ some b) := fun b hb e => by
                  rcases hmv b e with h | h
                  · exact HA9.out b hb h
                  · have := hlt9 b hb; omega
                obtain ⟨a6, c6, rfl⟩ := ho12.is
                have HO12 := hide ho12
                have HB12 := hide hb12
                have HS12 : Hid (p < w12.heap.size) := by have h1 := HS10.out; show _ < _; omega
                clear ho12 hb12 hs12 hkv hmv hlt9 HO10 HN10 HC10 HB10 HS10 HO11 HB11 HS11 HS11' HF11 HBx HA9
                go_wp2_with fail
                go_roundw
                case rel => exact ⟨k' + 1, HK65.out, HO12.out, HN12.out, HA12.out, HC12.out, HB12.out, HS12.out⟩
                case measure => exact HMs.out
              · go_wp2_with fail
                go_ret2
                exact HFin.out _ k' _ (by omega) HO10.out HN10.out HB10.out
        | succ M =>
          have q1 : (0 : Int) < ((M + 1 : Nat) : Int) := by omega
          have cF := from_any p a len cap _ HC4.out 0 4 (by omega) (by omega) (by omega)
          go_wp2_with fail
          refine cF.mono ?_
          rintro e w8 ⟨y, rfl, hy0, hy1, hc8, hk8⟩
          have HK8 := hide (HK4.out.trans hk8)
          have HC8 := hide hc8
          have HN8 := hide (owns_kept HN4.out hk8 HS.out)
          have HZ8 := hide HK8.out.size
          have HLn : Hid (L.length ≤ 1048576) := by show _ ≤ _; omega
          have HBr : Hid (Below wr0.heap.size w8 w8) := Below.refl _ _
          have hw1 : IntKind.i64.wrap ((M : Int) + 1 - 1) = (M : Int) := by rw [IntKind.wrap_i64]; omega
          clear cF hc8 hk8 HK4 HC4 HN4
          go_wp2_with (refine growL _ rfl _ _ rfl wr0.heap.size _ L.length L rfl w8 HN8.out HBr.out HZ8.out y rfl HLn.out ?_)
          intro v' w9 ho9 hb9 hs9
          have HN9 : Hid (w9.ownsRow wr0.heap.size 2 1 v' (L ++ [y]).length (ints (L ++ [y]))) := by
            show World.ownsRow _ _ _ _ _ _ _
            rw [List.length_append]; exact ho9
          have HK9 := hide (HK8.out.belowB hb9 (Nat.le_refl _))
          have HC9 := hide (HC8.out.belowB hb9 HS.out (abLe HAB.out (Nat.le_of_lt HS.out)))
          clear ho9 hb9 hs9 HK8 HC8 HN8 HZ8
          go_wp2_with fail
          go_roundw
          case rel => exact ⟨L ++ [y], M, by simp; omega, by simp, HN9.out, HK9.out, HC9.out⟩
          case measure => simp [intOf]
    | succ N =>
      have q0 : (0 : Int) < ((N + 1 : Nat) : Int) := by omega
      have c9 := below_any p a len cap _ HC.out 9 (by omega) (by omega)
      go_wp2_with fail
      refine c9.mono ?_
      rintro e w4 ⟨x9, rfl, hx9, hx9', hc4, hk4⟩
      have hw9 : IntKind.i64.wrap (1 + x9) = 1 + x9 := by rw [IntKind.wrap_i64]; omega
      have HQ : Hid (OB w4.heap.size (1 + x9) [] none 0 (w4.alloc (.cells #[.int .i64 (1 + x9), .slice none 0 0] 30))) := ⟨by simp [go_sem], by simp [go_sem], by simp [go_sem], by simp [go_sem], World.ownsRow_nil _ _ _ _⟩
      have HK4 : Hid (Kept p wr0 (w4.alloc (.cells #[.int .i64 (1 + x9), .slice none 0 0] 30))) := hk4.belowNew ((Below.refl _ _).alloc hk4.size _)
      have HC4 : Hid (Cur p a len cap (w4.alloc (.cells #[.int .i64 (1 + x9), .slice none 0 0] 30))) := hc4.below (bnew _ _)
      have HZ4 : Hid (w4.heap.size + 1 ≤ (w4.alloc (.cells #[.int .i64 (1 + x9), .slice none 0 0] 30)).heap.size) := by show _ ≤ _; simp
      have HW4 := hide hk4.size
      clear c9 hc4 hk4
      generalize hid : 1 + x9 = id at *
      clear hx9 hx9'
      go_wp2_with fail
      generalize hw5 : w4.alloc (.cells #[.int .i64 id, .slice none 0 0] 30) = w5 at *
      clear hw5
      have HPQ : Hid (p < w4.heap.size) := Nat.lt_of_lt_of_le HS.out HW4.out
      generalize w4.heap.size = q at *
      go_loopw [8] (fun f wq => ∃ (j : Nat) (L : List Int) (af : Option Addr) (cf : Nat), j ≤ 4 ∧ f = .int .i64 j ∧ L.length ≤ j ∧ OB q id L af cf wq ∧ Kept p wr0 wq ∧ Cur p a len cap wq ∧ q + 1 ≤ wq.heap.size) (fun f _ => 4 - (intOf f).toNat)
      case atStart => exact ⟨0, [], none, 0, by omega, rfl, by simp, HQ.out, HK4.out, HC4.out, HZ4.out⟩
      case round =>
        obtain ⟨j, L, af, cf, hj, rfl, hL, hq, hk, hc, hz⟩ := hrel
        clear HQ HK4 HC4 HZ4
        have HQ := hide hq
        have HK4 := hide hk
        have HC4 := hide hc
        have HZ4 := hide hz
        have HL := hide hL
        clear hq hk hc hz hL
        by_cases hj4 : j = 4
        · have q4 : ¬ (j : Int) < 4 := by omega
          have hd := once_any p a len cap _ HC4.out 12 (by omega) (by omega)
          go_upto_if 37 with (first | (refine hd.mono ?_; rintro e w8 ⟨b8, rfl, hc8, hk8⟩; have HQ8 := hide (HQ.out.kept hk8 HPQ.out); have HK8 := hide (HK4.out.trans hk8); have HC8 := hide hc8; have HZ8 := hide (Nat.le_trans HZ4.out hk8.size); clear hd hc8 hk8 HQ HK4 HC4 HZ4))
          go_cut [] (fun wc => ∃ (id' : Int), OB q id' L af cf wc ∧ Kept p wr0 wc ∧ Cur p a len cap wc ∧ q + 1 ≤ wc.heap.size)
          case first =>
            cases b8
            · go_wp2_with fail
              go_meet
              exact ⟨id, HQ8.out, HK8.out, HC8.out, HZ8.out⟩
            · have HBn : Hid (Below (q + 1) w8 (w8.alloc (.cells #[.int .i64 0, .int .i64 255, .int .i64 256] 2))) := (Below.refl _ _).alloc HZ8.out _
              have HC9 := hide (HC8.out.belowB HBn.out (by have := HPQ.out; omega) (abLe HAB.out (by have := HPQ.out; omega)))
              have hd := below_any p a len cap _ HC9.out 3 (by omega) (by omega)
              go_wp2_with fail
              refine hd.mono ?_
              rintro e w9 ⟨y, rfl, hy0, hy1, hc9, hk9⟩
              have hk := (Kept.of_below (p := p) (bnew w8 (.cells #[.int .i64 0, .int .i64 255, .int .i64 256] 2))).trans hk9
              have HQ9 := hide (HQ8.out.kept hk HPQ.out)
              have HK9 := hide (HK8.out.trans hk)
              have HZ9 := hide (Nat.le_trans HZ8.out hk.size)
              have hne : w8.heap.size ≠ p := by have := HZ8.out; have := HPQ.out; omega
              have a0 : w9.cell? ⟨w8.heap.size, 0, none⟩ = some (.int .i64 0) := hk9.cell (a := ⟨w8.heap.size, 0, none⟩) hne (by simp [go_sem])
              have a1 : w9.cell? ⟨w8.heap.size, 1, none⟩ = some (.int .i64 255) := hk9.cell (a := ⟨w8.heap.size, 1, none⟩) hne (by simp [go_sem])
              have a2 : w9.cell? ⟨w8.heap.size, 2, none⟩ = some (.int .i64 256) := hk9.cell (a := ⟨w8.heap.size, 2, none⟩) hne (by simp [go_sem])
              have z9 := HQ9.out.z0
              have f9 := HQ9.out.f0
              have HS0 : ∀ id' : Int, Hid (OB q id' L af cf (w9.setCell ⟨q, 0, none⟩ (.int .i64 id')) ∧ Kept p wr0 (w9.setCell ⟨q, 0, none⟩ (.int .i64 id')) ∧ Cur p a len cap (w9.setCell ⟨q, 0, none⟩ (.int .i64 id')) ∧ q + 1 ≤ (w9.setCell ⟨q, 0, none⟩ (.int .i64 id')).heap.size) := fun id' =>
                ⟨HQ9.out.set0 id', HK9.out.setNew (a := ⟨q, 0, none⟩) HW4.out _, hc9.setBox HPQ.out HAB.out HZ9.out _, by have := HZ9.out; simpa using this⟩
              clear hd hc9 hk9 hk HQ9 HK9 HZ9 HQ8 HK8 HC8 HZ8 HBn HC9
              have hy : y = 0 ∨ y = 1 ∨ y = 2 := by omega
              clear hy0 hy1
              rcases hy with rfl | rfl | rfl
              all_goals
                go_wp2_with fail
                go_meet
                exact ⟨_, (HS0 _).out⟩
          case rest =>
            obtain ⟨id', hq', hk', hc', hz'⟩ := hcut
            clear HQ8 HK8 HC8 HZ8
            have HQ := hide hq'
            have HK4 := hide hk'
            have HC4 := hide hc'
            have HZ4 := hide hz'
            have hd := once_any p a len cap _ HC4.out 12 (by omega) (by omega)
            clear hq' hk' hc' hz'
            go_upto_if 45 with (first | (refine hd.mono ?_; rintro e w8 ⟨b8, rfl, hc8, hk8⟩; have HQ8 := hide (HQ.out.kept hk8 HPQ.out); have HK8 := hide (HK4.out.trans hk8); have HC8 := hide hc8; have HZ8 := hide (Nat.le_trans HZ4.out hk8.size); clear hd hc8 hk8 HQ HK4 HC4 HZ4))
            go_cut [] (fun wc => ∃ (L' : List Int) (af' : Option Addr) (cf' : Nat), L'.length ≤ 8 ∧ OB q id' L' af' cf' wc ∧ Kept p wr0 wc ∧ Cur p a len cap wc ∧ q + 1 ≤ wc.heap.size)
            case first =>
              cases b8
              · go_wp2_with fail
                go_meet
                exact ⟨L, af, cf, by have := HL.out; omega, HQ8.out, HK8.out, HC8.out, HZ8.out⟩
              · have hd := fun w' h => from_any p a len cap w' h (-1) 4 (by omega) (by omega) (by omega)
                have z8 := HQ8.out.z1
                have f8 := HQ8.out.f1
                have HCd : Hid (Cur p a len cap w8.drew) := HC8.out.drewN 1
                obtain ⟨ti, hi1, hi2, hi3, hi4⟩ := info2
                have HI1 := hide hi1
                have HLn : Hid (L.length ≤ 4) := by have := HL.out; show _ ≤ _; omega
                clear hi1
                go_upto_region 15 with fail
                go_region_law (first
                  | (refine step_append_lies _ (by rfl) _ _ _ (by rfl) (q + 1) 2 ti _ 1 8 Try.underlying25 HI1.out hi2 hi3 hi4 rfl (by omega) (.slice af L.length cf) L.length (ints L) (by rfl) (HQ10.out.own.alloc _) ⟨w10.heap.size, 0, none⟩ 1 1 [.int .i64 y] (by rfl) (by rfl) (World.news_of_block (cs := #[.int .i64 y]) (t := 2) (fr := (0, 0)) (heap_alloc_new w10 _)) (by simp [Value.oneCell']) (by omega) (by have := HLn.out; unfold maxLen; omega) (by have := HLn.out; omega) (by have := HZ10.out; simp; omega) (w10.heap.size + 1) (by simp) ?_; intro gg cap1 w11 hown1 hgrow hat hlt1; have hb11 : Below (q + 1) w10 w11 := ((Below.refl _ _).alloc HZ10.out _).trans ((Below.refl _ _).grown hgrow (by have := HZ10.out; simp; omega) (fun q' hq' => (HQ10.out.own.lt q' hq').1)); have z11 := (hb11.cell (p := ⟨q, 1, none⟩) (by show q < q + 1; omega)).trans z10; have f11 := (hb11.frozen (p := ⟨q, 1, none⟩) (by show q < q + 1; omega)).trans f10)
                  | (go_wp2_with fail; (with_reducible refine (hd _ HCd.out).mono ?_); rintro e w10 ⟨y, rfl, hy0, hy1, hc10, hk10⟩; have hk := ((Kept.refl p w8).drew).trans hk10; have HQ10 := hide (HQ8.out.kept hk HPQ.out); have HK10 := hide (HK8.out.trans hk); have HZ10 := hide (Nat.le_trans HZ8.out hk.size); have HC10 := hide hc10; have z10 := HQ10.out.z1; have f10 := HQ10.out.f1; have hq10 : q < w10.heap.size := HZ10.out; clear hc10 hk10 hk))
                all_goals
                  have e1 : L.length + 1 = (L ++ [y]).length := by simp
                  have ho11 : w11.ownsRow (q + 1) 2 1 (.slice (some ⟨gg, 0, none⟩) (L ++ [y]).length cap1) (L ++ [y]).length (ints (L ++ [y])) := by rw [ints_append, ← e1]; exact hown1
                  have HX : Hid (OB q id' (L ++ [y]) (some ⟨gg, 0, none⟩) cap1 (w11.setCell ⟨q, 1, none⟩ (.slice (some ⟨gg, 0, none⟩) (L.length + 1) cap1)) ∧ Kept p wr0 (w11.setCell ⟨q, 1, none⟩ (.slice (some ⟨gg, 0, none⟩) (L.length + 1) cap1)) ∧ Cur p a len cap (w11.setCell ⟨q, 1, none⟩ (.slice (some ⟨gg, 0, none⟩) (L.length + 1) cap1)) ∧ q + 1 ≤ (w11.setCell ⟨q, 1, none⟩ (.slice (some ⟨gg, 0, none⟩) (L.length + 1) cap1)).heap.size) := by
                    rw [e1]
                    exact ⟨HQ10.out.set1 hb11 ho11, (HK10.out.belowB hb11 (by have := HW4.out; omega)).setNew (a := ⟨q, 1, none⟩) HW4.out _, (HC10.out.belowB hb11 (by have := HPQ.out; omega) (abLe HAB.out (by have := HPQ.out; omega))).setBox HPQ.out HAB.out (Nat.le_trans HZ10.out hb11.size) _, by have := Nat.le_trans HZ10.out hb11.size; simpa using this⟩
                  have HL9 : Hid ((L ++ [y]).length ≤ 8) := by have := HLn.out; show _ ≤ _; rw [← e1]; omega
                  clear hown1 hgrow hat hlt1 hb11 z11 f11 ho11 e1 hd HCd HQ10 HK10 HC10 HZ10 z10 f10 HQ8 HK8 HC8 HZ8 z8 f8
                  go_wp2_with fail
                  go_meet
                  exact ⟨_, _, _, HL9.out, HX.out⟩
            case rest =>
              obtain ⟨L', af', cf', hL', hq', hk', hc', hz'⟩ := hcut
              clear HQ8 HK8 HC8 HZ8
              have HFm : Hid (FmO p p u5 af' L'.length (fun k => L'.getD k 0) wc) := hq'.fm hL' (by have := HPQ.out; omega) HPQ.out (fun b hb => Nat.lt_of_lt_of_le (HO.out.own.2 b hb).2 HW4.out)
              have HO9 := hide (HO.out.kept hk')
              have HB9 : Hid (Below p w wc) := HB.out.trans (hk'.below (Nat.le_refl _) (Nat.le_of_lt HS.out))
              have HC9 := hide hc'
              have HS9 : Hid (p < wc.heap.size) := by have := HPQ.out; show _ < _; omega
              have HS9' : Hid (p ≤ wc.heap.size) := Nat.le_of_lt HS9.out
              have HOw := hide HO9.out.own
              have HkN : Hid (k ≤ 1048576) := by show _ ≤ _; omega
              have z0 := hq'.z0
              have z1 := hq'.z1
              clear hq' hk' hc' hz' HO HC HB HS
              have hw1 : IntKind.i64.wrap ((N : Int) + 1 - 1) = (N : Int) := by rw [IntKind.wrap_i64]; omega
              go_wp2_with (refine growO wc rfl (.tmp 53) (.tmp 55) (by rfl) p p _ k (by rfl) w HO9.out HB9.out HS9'.out HS9.out id' af' L'.length cf' (fun k => L'.getD k 0) HFm.out (by rfl) HkN.out ?_)
              intro v' w12 ho12 hb12 hs12 hkv hmv
              have HC12 := hide (HC9.out.kpv hkv HS9.out HOw.out.1 (fun b hb => (HOw.out.2 b hb).1) HAB.out)
              have HO12 := hide ho12
              have HB12 := hide hb12
              have HS12 : Hid (p < w12.heap.size) := Nat.lt_trans HS9.out hs12
              clear ho12 hb12 hs12 hkv hmv HC9 HO9 HB9 HS9 HS9' HOw HFm z0 z1
              go_wp2_with fail
              go_roundw
              case rel => exact ⟨k + 1, N, by omega, by simp, HO12.out, HC12.out, HB12.out, HS12.out⟩
              case measure => simp [intOf]
        · have q4 : (j : Int) < 4 := by omega
          have c2 := once_any p a len cap _ HC4.out 2 (by omega) (by omega)
          go_wp2_with fail
          refine c2.mono ?_
          rintro e w6 ⟨b, rfl, hc6, hk6⟩
          have HQ6 := hide (HQ.out.kept hk6 HPQ.out)
          have HK6 := hide (HK4.out.trans hk6)
          have HC6 := hide hc6
          have HZ6 := hide (Nat.le_trans HZ4.out hk6.size)
          clear hc6 hk6 c2 HQ HK4 HC4 HZ4
          have hjw : IntKind.i64.wrap ((j : Int) + 1) = (j : Int) + 1 := by rw [IntKind.wrap_i64]; omega
          cases b
          · go_wp2_with fail
            go_roundw
            case rel => exact ⟨j + 1, L, af, cf, by omega, by simp, Nat.le_succ_of_le HL.out, HQ6.out, HK6.out, HC6.out, HZ6.out⟩
            case measure => simp [intOf]; omega
          · have z1 := HQ6.out.z1
            have hqs : q < w6.heap.size := HZ6.out
            have HN6 : Hid ((w6.alloc (.cells #[.int .i64 j] 2)).ownsRow (q + 1) 2 1 (.slice (some ⟨w6.heap.size, 0, none⟩) 1 1) 1 (ints [(j : Int)])) := World.ownsRow_lit w6 #[.int .i64 j] 1 HZ6.out (by unfold maxLen; omega) rfl
            have HO6 : Hid ((w6.alloc (.cells #[.int .i64 j] 2)).ownsRow (q + 1) 2 1 (.slice af L.length cf) L.length (ints L)) := HQ6.out.own.alloc _
            have HB6 : Hid (Below (q + 1) w6 (w6.alloc (.cells #[.int .i64 j] 2))) := (Below.refl _ _).alloc HZ6.out _
            have HM6 : Hid (q + 1 ≤ (w6.alloc (.cells #[.int .i64 j] 2)).heap.size) := Nat.le_trans HZ6.out HB6.out.size
            have HLn : Hid (1 + L.length ≤ 1048576) := by have := HL.out; show _ ≤ _; omega
            go_wp2_with (refine growCat' _ rfl _ _ rfl (q + 1) _ 1 [(j : Int)] rfl w6 HN6.out HB6.out HM6.out _ (q + 1) L.length L rfl HO6.out HLn.out ?_)
            intro v' w7 ho7 hb7
            rw [show 1 + L.length = ([(j : Int)] ++ L).length by simp; omega] at ho7
            obtain ⟨af7, cf7, rfl⟩ := own_is ho7
            have z7 := (hb7.cell (p := ⟨q, 1, none⟩) (by show q < q + 1; omega)).trans HQ6.out.z1
            have f7 := (hb7.frozen (p := ⟨q, 1, none⟩) (by show q < q + 1; omega)).trans HQ6.out.f1
            have HQ7 := hide (HQ6.out.set1 hb7 ho7)
            have HK7 : Hid (Kept p _ (w7.setCell ⟨q, 1, none⟩ (.slice af7 ([(j : Int)] ++ L).length cf7))) := (HK6.out.belowB hb7 (by have := HW4.out; omega)).setNew (a := ⟨q, 1, none⟩) HW4.out _
            have HZ7 : Hid (q + 1 ≤ (w7.setCell ⟨q, 1, none⟩ (.slice af7 ([(j : Int)] ++ L).length cf7)).heap.size) := by
              have := Nat.le_trans HZ6.out hb7.size
              show _ ≤ _
              simpa using this
            have HC7 : Hid (Cur p a len cap (w7.setCell ⟨q, 1, none⟩ (.slice af7 ([(j : Int)] ++ L).length cf7))) := (HC6.out.belowB hb7 (by have := HPQ.out; omega) (abLe HAB.out (by have := HPQ.out; omega))).setBox HPQ.out HAB.out (Nat.le_trans HZ6.out hb7.size) _
            have HL7 : Hid (([(j : Int)] ++ L).length ≤ j + 1) := by have := HL.out; show _ ≤ _; simp; omega
            clear ho7 hb7 HQ6 HK6 HC6 HZ6 HN6 HO6 HB6 HM6 HL HLn z1
            generalize [(j : Int)] ++ L = L7 at *
            go_wp2_with fail
            go_roundw
            case rel => exact ⟨j + 1, L7, af7, cf7, by omega, by simp, HL7.out, HQ7.out, HK7.out, HC7.out, HZ7.out⟩
            case measure => simp [intOf]; omega

end Go.Proofs.Ytgemdhhofflhgaa
