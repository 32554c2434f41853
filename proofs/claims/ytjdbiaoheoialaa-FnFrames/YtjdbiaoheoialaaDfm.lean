/- The draw of a frame: two lists that grow side by side. -/
import Derived.Test.YtjdbiaoheoialaaLr9
import Derived.Test.YtjdbiaoheoialaaDpg
import Derived.Test.YtjdbiaoheoialaaGrk
import Derived.Deep.DeepCutAuto
import Derived.Deep.CutBlock
namespace Go.Proofs.Ytjdbiaoheoialaa
open Go.RowKit

/-- a small number -/
def Bd6 (z : Int) : Prop := -1000000 ≤ z ∧ z ≤ 1000000
/-- a literal table of n small numbers lies there -/
def TabB (n b : Nat) (w : World) : Prop := ∀ Y, Y < n → ∃ z : Int, w.cell? ⟨b, Y, none⟩ = some (.int .i64 z) ∧ Bd6 z
theorem TabB.kept {n b p : Nat} {w w' : World} (h : TabB n b w) (hk : Kept p w w') (hb : b ≠ p) : TabB n b w' := fun Y hY => (h Y hY).imp fun _ hz => ⟨hk.cell (a := ⟨b, Y, none⟩) hb hz.1, hz.2⟩
theorem tabB_lit {w : World} (L : List Int) (hL : ∀ x ∈ L, Bd6 x) : TabB L.length w.heap.size (w.alloc (.cells (L.map (Value.int .i64)).toArray 2)) := fun Y hY =>
  ⟨L[Y], by simp [go_sem, hY], hL _ (List.getElem_mem _)⟩
/-- what is known: the cursor at p, the box of the answer, two lists -/
structure D2 (p : Nat) (a : Option Addr) (len cap : Nat) (w : World) (vm : Value) (nm : Nat) (Lm : List Int) (vt : Value) (nt : Nat) (Lt : List Int) (wr : World) : Prop where
  cur : Cur p a len cap wr
  kept : Kept p w wr
  res : Bx w.heap.size [.slice none 0 0, .slice none 0 0, .int .i64 0] wr
  om : wr.ownsRow (w.heap.size + 1) 2 1 vm nm (ints Lm)
  ot : wr.ownsRow (w.heap.size + 1) 2 1 vt nt (ints Lt)
  ap : Apart vt vm
  sz : w.heap.size + 1 ≤ wr.heap.size
section
variable {p : Nat} {a : Option Addr} {len cap : Nat} {w : World} {vm vm' vt vt' : Value} {nm nt : Nat} {Lm Lt : List Int} {wr w' : World}
theorem D2.step (h : D2 p a len cap w vm nm Lm vt nt Lt wr) (hp : p < w.heap.size) (hc : Cur p a len cap w') (hk : Kept p wr w') : D2 p a len cap w vm nm Lm vt nt Lt w' :=
  ⟨hc, h.kept.trans hk, h.res.kept hk (by omega), owns_kept h.om hk (by omega), owns_kept h.ot hk (by omega), h.ap, Nat.le_trans h.sz hk.size⟩
theorem D2.alloc (h : D2 p a len cap w vm nm Lm vt nt Lt wr) (hp : p < w.heap.size) (o : Obj) : D2 p a len cap w vm nm Lm vt nt Lt (wr.alloc o) := h.step hp (h.cur.below (bnew _ _)) (Kept.of_below (bnew _ _))
theorem D2.growM (h : D2 p a len cap w vm nm Lm vt nt Lt wr) (hp : p < w.heap.size) (hab : len = 0 ∨ ∀ b off, a = some ⟨b, off, none⟩ → b < w.heap.size) {z : Int} (ho : w'.ownsRow (w.heap.size + 1) 2 1 vm' (nm + 1) (ints (Lm ++ [z]))) (hb : Below (w.heap.size + 1) wr w') (hk : KpV vm wr w') (hm : Moved vm vm' wr) : D2 p a len cap w vm' (nm + 1) (Lm ++ [z]) vt nt Lt w' :=
  ⟨h.cur.belowB (hb.mono (by omega)) hp hab, h.kept.belowB (hb.mono (by omega)) (Nat.le_refl _), h.res.below hb (by omega), ho, owns_side h.ot hk h.ap, h.ap.moved hm h.ot, Nat.le_trans h.sz hb.size⟩
theorem D2.growT (h : D2 p a len cap w vm nm Lm vt nt Lt wr) (hp : p < w.heap.size) (hab : len = 0 ∨ ∀ b off, a = some ⟨b, off, none⟩ → b < w.heap.size) {z : Int} (ho : w'.ownsRow (w.heap.size + 1) 2 1 vt' (nt + 1) (ints (Lt ++ [z]))) (hb : Below (w.heap.size + 1) wr w') (hk : KpV vt wr w') (hm : Moved vt vt' wr) : D2 p a len cap w vm nm Lm vt' (nt + 1) (Lt ++ [z]) w' :=
  ⟨h.cur.belowB (hb.mono (by omega)) hp hab, h.kept.belowB (hb.mono (by omega)) (Nat.le_refl _), h.res.below hb (by omega), owns_side h.om hk h.ap.symm, ho, (h.ap.symm.moved hm h.om).symm, Nat.le_trans h.sz hb.size⟩
theorem D2.set {b c : Nat} (h : D2 p a len cap w (.slice (some ⟨b, 0, none⟩) nm c) nm Lm vt nt Lt wr) (hp : p < w.heap.size) (hab : len = 0 ∨ ∀ b off, a = some ⟨b, off, none⟩ → b < w.heap.size) (k : Nat) (z : Int) : D2 p a len cap w (.slice (some ⟨b, 0, none⟩) nm c) nm (Lm.set k z) vt nt Lt (wr.setCell ⟨b, k, none⟩ (.int .i64 z)) := by
  have hb : w.heap.size + 1 ≤ b := owns_ge h.om b rfl
  have hbl : Below (w.heap.size + 1) wr (wr.setCell ⟨b, k, none⟩ (.int .i64 z)) := (Below.refl _ _).setCell hb _
  refine ⟨h.cur.belowB (hbl.mono (by omega)) hp hab, h.kept.belowB (hbl.mono (by omega)) (Nat.le_refl _), h.res.below hbl (by omega), own_setL h.om k z, owns_keep h.ot (fun b' hb' => heap_setCell_other wr ⟨b, k, none⟩ b' _ (fun e => h.ap b' hb' (by rw [e]; rfl))), h.ap, by simpa using h.sz⟩
end
/-- a frame is drawn: its lists are the call's own -/
def DrF (p : Nat) (a : Option Addr) (len cap : Nat) (w : World) (e : Ending) (w' : World) : Prop :=
  ∃ (D : Int) (b0 c0 : Nat) (F0 : Nat → Int) (b1 c1 : Nat) (F1 : Nat → Int), e = .returned (vFrame D (some ⟨b0, 0, none⟩) 9 c0 (some ⟨b1, 0, none⟩) 3 c1) ∧ w.heap.size ≤ b0 ∧ w.heap.size ≤ b1 ∧ b0 ≠ b1 ∧ Row b0 9 F0 w' ∧ Row b1 3 F1 w' ∧ Cur p a len cap w' ∧ Kept p w w' ∧ 9 ≤ c0
/-- the frame is put into the box of the answer -/
theorem drF_end {p : Nat} {a : Option Addr} {len cap : Nat} {w : World} {wr : World} (hcu : Cur p a len cap wr) (hke : Kept p w wr) (hp : p < w.heap.size) (hab : len = 0 ∨ ∀ b off, a = some ⟨b, off, none⟩ → b < w.heap.size) {b0 b1 : Nat} (g0 : w.heap.size < b0) (g1 : w.heap.size < b1) (g2 : b0 ≠ b1) (D : Int) (c0 c1 : Nat) (hcp : 9 ≤ c0) {F0 F1 : Nat → Int} (r0 : Row b0 9 F0 wr) (r1 : Row b1 3 F1 wr) :
    DrF p a len cap w (.returned (vFrame D (some ⟨b0, 0, none⟩) 9 c0 (some ⟨b1, 0, none⟩) 3 c1)) (((wr.setCell ⟨w.heap.size, 0, none⟩ (.slice (some ⟨b0, 0, none⟩) 9 c0)).setCell ⟨w.heap.size, 1, none⟩ (.slice (some ⟨b1, 0, none⟩) 3 c1)).setCell ⟨w.heap.size, 2, none⟩ (.int .i64 D)) := by
  have hbl := below_set37 (B := w.heap.size) (Below.refl _ wr) (b := w.heap.size) (.slice (some ⟨b0, 0, none⟩) 9 c0) (.slice (some ⟨b1, 0, none⟩) 3 c1) (.int .i64 D) (Nat.le_refl _)
  have n0 : w.heap.size ≠ b0 := by omega
  have n1 : w.heap.size ≠ b1 := by omega
  exact ⟨D, b0, c0, F0, b1, c1, F1, rfl, by omega, by omega, g2, ((r0.set (p := ⟨w.heap.size, 0, none⟩) n0 _).set (p := ⟨w.heap.size, 1, none⟩) n0 _).set (p := ⟨w.heap.size, 2, none⟩) n0 _, ((r1.set (p := ⟨w.heap.size, 0, none⟩) n1 _).set (p := ⟨w.heap.size, 1, none⟩) n1 _).set (p := ⟨w.heap.size, 2, none⟩) n1 _, hcu.belowB hbl hp hab, hke.belowB hbl (Nat.le_refl _), hcp⟩
theorem row_lit {w : World} (L : List Int) : Row w.heap.size L.length (fun k => L.getD k 0) (w.alloc (.cells (L.map (Value.int .i64)).toArray 2)) := fun j hj => ⟨by simp [go_sem, hj, List.getD], by simp [go_sem]⟩
/-- the frame in its box -/
def FrX9 (w : World) (X : Nat) (wc : World) : Prop := ∃ (D : Int) (b0 c0 : Nat) (F0 : Nat → Int) (b1 c1 : Nat) (F1 : Nat → Int), Bx X [.slice (some ⟨b0, 0, none⟩) 9 c0, .slice (some ⟨b1, 0, none⟩) 3 c1, .int .i64 D] wc ∧ w.heap.size < b0 ∧ w.heap.size < b1 ∧ b0 ≠ b1 ∧ Row b0 9 F0 wc ∧ Row b1 3 F1 wc

set_option maxRecDepth 100000 in
set_option maxHeartbeats 8000000 in
theorem l7Draw_any (p : Nat) (a : Option Addr) (len cap : Nat) (w : World) (h : Cur p a len cap w) (hp : p < w.heap.size) (hab : len = 0 ∨ ∀ b off, a = some ⟨b, off, none⟩ → b < w.heap.size) :
    Calls Try.prog 29 #[.pointer (some ⟨p, 0, none⟩)] w (DrF p a len cap w) := by
  have HD0 : Hid (D2 p a len cap w (.slice (some ⟨w.heap.size + 1, 0, none⟩) 0 0) 0 [] (.slice (some ⟨w.heap.size + 2, 0, none⟩) 0 0) 0 [] (((w.alloc (.cells #[.slice none 0 0, .slice none 0 0, .int .i64 0] 26)).alloc (.cells #[] 2)).alloc (.cells #[] 2))) := by
    have s1 : (w.alloc (.cells #[.slice none 0 0, .slice none 0 0, .int .i64 0] 26)).heap.size = w.heap.size + 1 := by simp
    have s2 : ((w.alloc (.cells #[.slice none 0 0, .slice none 0 0, .int .i64 0] 26)).alloc (.cells #[] 2)).heap.size = w.heap.size + 2 := by simp
    have hb : Below w.heap.size w (((w.alloc (.cells #[.slice none 0 0, .slice none 0 0, .int .i64 0] 26)).alloc (.cells #[] 2)).alloc (.cells #[] 2)) := ((bnew _ _).alloc (by rw [s1]; omega) _).alloc (by rw [s2]; omega) _
    have o1 := World.ownsRow_made (w.alloc (.cells #[.slice none 0 0, .slice none 0 0, .int .i64 0] 26)) (base := w.heap.size + 1) (e := 2) (size := 1) #[] 0 (by rw [s1]; omega) (Nat.zero_le _) rfl
    have o2 := World.ownsRow_made ((w.alloc (.cells #[.slice none 0 0, .slice none 0 0, .int .i64 0] 26)).alloc (.cells #[] 2)) (base := w.heap.size + 1) (e := 2) (size := 1) #[] 0 (by rw [s2]; omega) (Nat.zero_le _) rfl
    rw [s1] at o1
    rw [s2] at o2
    exact ⟨h.below hb, Kept.of_below hb, (Bx.new [.slice none 0 0, .slice none 0 0, .int .i64 0] 26 w).below ((bnew _ _).alloc (by rw [s2]; omega) _) (by rw [s1]; omega), ownsRow_below' o1 (bnew _ _), o2, fun b hb hb' => (by simp [Value.ownBlock] at hb hb'; omega), by simp⟩
  have HAB := hide hab
  have HP := hide hp
  clear h hab
  go_enter Try.func29, Try.ntmps29
  go_upto_region 3 with fail
  generalize ((w.alloc (.cells #[.slice none 0 0, .slice none 0 0, .int .i64 0] 26)).alloc (.cells #[] 2)).alloc (.cells #[] 2) = w1 at *
  generalize (Value.slice (some ⟨w.heap.size + 1, 0, none⟩) 0 0) = vm0 at *
  generalize (Value.slice (some ⟨w.heap.size + 2, 0, none⟩) 0 0) = vt0 at *
  go_wp2_with fail
  go_loopw [3, 5, 6] (fun v i _ wr => ∃ (k : Nat) (Lm : List Int), k ≤ 9 ∧ i = .int .i64 k ∧ (∀ x ∈ Lm, Bd6 x) ∧ D2 p a len cap w v k Lm vt0 0 [] wr) (fun _ i _ _ => 9 - (intOf i).toNat)
  case atStart => exact ⟨0, [], by omega, rfl, by simp, HD0.out⟩
  case round =>
    obtain ⟨k, Lm, hk, rfl, hbd, hd⟩ := hrel
    clear HD0
    have HD := hide hd
    have HBd := hide hbd
    clear hd hbd
    by_cases hlt : k < 9
    · have hki : (k : Int) < 9 := by omega
      go_upto_if 19 with fail
      go_cut [6] (fun s wc => ∃ z : Int, s = .int .i64 z ∧ Bd6 z ∧ D2 p a len cap w u3 k Lm vt0 0 [] wc)
      case first =>
        by_cases h4 : (k : Int) % 4 = 0
        · have HT : Hid (TabB 5 wr.heap.size (wr.alloc (.cells #[.int .i64 1, .int .i64 1, .int .i64 (-1), .int .i64 2, .int .i64 3] 2))) := tabB_lit [1, 1, -1, 2, 3] (by intro x hx; simp at hx; unfold Bd6; omega)
          have HD1 := hide (HD.out.alloc HP.out (.cells #[.int .i64 1, .int .i64 1, .int .i64 (-1), .int .i64 2, .int .i64 3] 2))
          have hne : wr.heap.size ≠ p := by have := HD.out.sz; have := HP.out; omega
          have hd := below_any p a len cap _ HD1.out.cur 5 (by omega) (by omega)
          go_wp2_with fail
          refine hd.mono ?_
          rintro e w4 ⟨m, rfl, hm0, hm1, hc, hk4⟩
          obtain ⟨M, rfl⟩ : ∃ M : Nat, m = (M : Int) := ⟨m.toNat, by omega⟩
          have hMi : (M : Int) < 5 := by omega
          obtain ⟨Z, hz, hZb⟩ := (HT.out.kept hk4 hne) M (by omega)
          have HD2 := hide (HD1.out.step HP.out hc hk4)
          have HZ := hide hZb
          clear hd hc hk4 HT HD1 HD hZb
          generalize wr.heap.size = Tq at *
          go_wp2_with fail
          go_meet
          exact ⟨Z, rfl, HZ.out, HD2.out⟩
        · have hd := once_any p a len cap _ HD.out.cur 3 (by omega) (by omega)
          go_wp2_with fail
          refine hd.mono ?_
          rintro e w4 ⟨q, rfl, hc, hk4⟩
          have HD2 := hide (HD.out.step HP.out hc hk4)
          clear hd hc hk4 HD
          cases q
          · go_wp2_with fail
            go_meet
            exact ⟨0, rfl, ⟨by omega, by omega⟩, HD2.out⟩
          · have hd := from_any p a len cap _ HD2.out.cur (-3) 3 (by omega) (by omega) (by omega)
            go_wp2_with fail
            refine hd.mono ?_
            rintro e w5 ⟨y, rfl, y0, y1, hc, hk4⟩
            have HD3 := hide (HD2.out.step HP.out hc hk4)
            have HY : Hid (Bd6 y) := ⟨by omega, by omega⟩
            clear hd hc hk4 HD2 y0 y1
            go_wp2_with fail
            go_meet
            exact ⟨y, rfl, HY.out, HD3.out⟩
      case rest =>
      obtain ⟨z, rfl, hz, hd⟩ := hcut
      clear HD
      have HD := hide hd
      have HZ := hide hz
      clear hd hz
      have HkM : Hid (k ≤ 1048576) := by show _ ≤ _; omega
      go_wp2_with (refine growN _ rfl _ _ rfl (w.heap.size + 1) _ k Lm rfl wc HD.out.om (Below.refl _ _) HD.out.sz z rfl HkM.out ?_)
      intro v' w' ho' hb' hs' hk' hm'
      have HD9 := hide (HD.out.growM HP.out HAB.out ho' hb' hk' hm')
      clear ho' hb' hs' hk' hm' HD
      go_wp2_with fail
      exact ⟨⟨k + 1, Lm ++ [z], by omega, rfl, fun x hx => (List.mem_append.1 hx).elim (HBd.out x) (fun h => by rw [List.mem_singleton.1 h]; exact HZ.out), HD9.out⟩, by simp [intOf]; omega⟩
    · have e9 : k = 9 := by omega
      have hkn : ¬ (k : Int) < 9 := by omega
      have hd9 := HD.out
      rw [e9] at hd9
      clear HD e9 hk hlt
      have HD := hide hd9
      clear hd9
      go_wp2_with fail
      generalize u3 = vm at *
      generalize (k : Int) = k9 at *
      clear hkn
      go_loopw [4, 7] (fun v i wr => ∃ (k : Nat) (Lt : List Int), k ≤ 3 ∧ i = .int .i64 k ∧ (∀ x ∈ Lt, Bd6 x) ∧ D2 p a len cap w vm 9 Lm v k Lt wr) (fun _ i _ => 3 - (intOf i).toNat)
      case atStart => exact ⟨0, [], by omega, rfl, by simp, HD.out⟩
      case round =>
        obtain ⟨k, Lt, hk, rfl, hbt, hd⟩ := hrel
        clear HD
        have HD := hide hd
        have HBt := hide hbt
        clear hd hbt
        by_cases hlt : k < 3
        · have hki : (k : Int) < 3 := by omega
          have hd := from_any p a len cap _ HD.out.cur (-9) 9 (by omega) (by omega) (by omega)
          go_wp2_with fail
          refine hd.mono ?_
          rintro e w4 ⟨z, rfl, z0, z1, hc, hk4⟩
          have HD2 := hide (HD.out.step HP.out hc hk4)
          have HZ : Hid (Bd6 z) := ⟨by omega, by omega⟩
          clear hd hc hk4 HD z0 z1
          have HkM : Hid (k ≤ 1048576) := by show _ ≤ _; omega
          go_wp2_with (refine growN _ rfl _ _ rfl (w.heap.size + 1) _ k Lt rfl w4 HD2.out.ot (Below.refl _ _) HD2.out.sz z rfl HkM.out ?_)
          intro v' w' ho' hb' hs' hk' hm'
          have HD9 := hide (HD2.out.growT HP.out HAB.out ho' hb' hk' hm')
          clear ho' hb' hs' hk' hm' HD2
          go_wp2_with fail
          exact ⟨⟨k + 1, Lt ++ [z], by omega, rfl, fun x hx => (List.mem_append.1 hx).elim (HBt.out x) (fun h => by rw [List.mem_singleton.1 h]; exact HZ.out), HD9.out⟩, by simp [intOf]; omega⟩
        · have e3 : k = 3 := by omega
          have hkn : ¬ (k : Int) < 3 := by omega
          have hd9 := HD.out
          rw [e3] at hd9
          clear HD e3 hk hlt
          have HD := hide hd9
          clear hd9
          have hd := once_any p a len cap _ HD.out.cur 3 (by omega) (by omega)
          go_upto_if 43 with (first | (refine hd.mono ?_; rintro e w4 ⟨q, rfl, hc, hk4⟩; have HD2 := hide (HD.out.step HP.out hc hk4); clear hd hc hk4 HD))
          generalize u4 = vt at *
          go_cut [8] (fun s wc => ∃ z : Int, s = .int .i64 z ∧ (1 ≤ z ∧ z ≤ 6) ∧ D2 p a len cap w vm 9 Lm vt 3 Lt wc)
          case first =>
            cases q
            · go_wp2_with fail
              go_meet
              exact ⟨1, rfl, by omega, HD2.out⟩
            · have hd := below_any p a len cap _ HD2.out.cur 6 (by omega) (by omega)
              go_wp2_with fail
              refine hd.mono ?_
              rintro e w5 ⟨y, rfl, y0, y1, hc, hk4⟩
              have HD3 := hide (HD2.out.step HP.out hc hk4)
              have hw : IntKind.i64.wrap (1 + y) = 1 + y := by rw [IntKind.wrap_i64]; omega
              have HY : Hid (1 ≤ 1 + y ∧ 1 + y ≤ 6) := ⟨by omega, by omega⟩
              clear hd hc hk4 HD2 y0 y1
              go_wp2_with fail
              go_meet
              exact ⟨1 + y, rfl, HY.out, HD3.out⟩
          case rest =>
          obtain ⟨dd, rfl, hdd, hd⟩ := hcut
          have HD := hide hd
          have HDD := hide hdd
          clear hd hdd HD2
          have hd := once_any p a len cap _ HD.out.cur 20 (by omega) (by omega)
          go_upto_if 48 with (first | (refine hd.mono ?_; rintro e w6 ⟨q2, rfl, hc, hk4⟩; have HD2 := hide (HD.out.step HP.out hc hk4); clear hd hc hk4 HD))
          go_cut [] (fun wc => ∃ L9 : List Int, (∀ x ∈ L9, Bd6 x) ∧ D2 p a len cap w vm 9 L9 vt 3 Lt wc)
          case first =>
            cases q2
            · go_wp2_with fail
              go_meet
              exact ⟨Lm, HBd.out, HD2.out⟩
            · have hd := below_any p a len cap _ HD2.out.cur 9 (by omega) (by omega)
              go_wp2_with fail
              refine hd.mono ?_
              rintro e w7 ⟨i, rfl, i0, i1, hc, hk4⟩
              obtain ⟨I9, rfl⟩ : ∃ I9 : Nat, i = (I9 : Int) := ⟨i.toNat, by omega⟩
              have HI9 : Hid (I9 < 9) := by show _ < _; omega
              have HD3 := hide (HD2.out.step HP.out hc hk4)
              have HT : Hid (TabB 3 w7.heap.size (w7.alloc (.cells #[.int .i64 1000000, .int .i64 (-1000000), .int .i64 999983] 2))) := tabB_lit [1000000, -1000000, 999983] (by intro x hx; simp at hx; unfold Bd6; omega)
              have HD4 := hide (HD3.out.alloc HP.out (.cells #[.int .i64 1000000, .int .i64 (-1000000), .int .i64 999983] 2))
              have hne : w7.heap.size ≠ p := by have := HD3.out.sz; have := HP.out; omega
              clear hd hc hk4 HD2 i0 i1 HD3
              have hd := below_any p a len cap _ HD4.out.cur 3 (by omega) (by omega)
              go_wp2_with fail
              refine hd.mono ?_
              rintro e w9 ⟨m, rfl, hm0, hm1, hc, hk4⟩
              obtain ⟨Mm, rfl⟩ : ∃ Mm : Nat, m = (Mm : Int) := ⟨m.toNat, by omega⟩
              have hMi : (Mm : Int) < 3 := by omega
              obtain ⟨Z, hz, hZb⟩ := (HT.out.kept hk4 hne) Mm (by omega)
              have HD5 := hide (HD4.out.step HP.out hc hk4)
              have HZ := hide hZb
              clear hd hc hk4 HT HD4 hZb hm0 hm1
              generalize w7.heap.size = Tq at *
              obtain ⟨b', c', hv, hB', hcl⟩ := own_partsL HD5.out.om (by omega)
              subst hv
              obtain ⟨yc, yf⟩ := hcl I9 HI9.out
              have hI3 : (I9 : Int) < 9 := by have := HI9.out; omega
              have HS := hide (HD5.out.set HP.out HAB.out I9 Z)
              have HBs : Hid (∀ x ∈ Lm.set I9 Z, Bd6 x) := fun x hx => (List.mem_or_eq_of_mem_set hx).elim (HBd.out x) (fun h => by rw [h]; exact HZ.out)
              clear hcl HD5
              go_wp2_with fail
              go_meet
              exact ⟨_, HBs.out, HS.out⟩
          case rest =>
          obtain ⟨L9, hb9, hd⟩ := hcut
          clear HD2 HBd
          have HD := hide hd
          obtain ⟨bm, cm, hvm, hBm, hcm⟩ := own_partsL hd.om (by omega)
          obtain ⟨bt, ct, hvt, hBt, hct⟩ := own_partsL hd.ot (by omega)
          subst hvm
          subst hvt
          have hl9 : L9.length = 9 := by have := hd.om.1; rw [ints_length] at this; omega
          have hl3 : Lt.length = 3 := by have := hd.ot.1; rw [ints_length] at this; omega
          have hbG : ∀ (Lx : List Int) (n k : Nat), Lx.length = n → (∀ x ∈ Lx, Bd6 x) → k < n → (Lx.getD k 0).natAbs ≤ 9000000000000000000 := fun Lx n k hl hb hk => by
            have : Lx.getD k 0 ∈ Lx := by
              rw [List.getD_eq_getElem?_getD, List.getElem?_eq_getElem (by omega)]
              exact List.getElem_mem _
            have := hb _ this
            unfold Bd6 at this
            omega
          have cR := l7RightC_any (some ⟨bm, 0, none⟩) cm (fun k => L9.getD k 0) (some ⟨bt, 0, none⟩) ct (fun k => Lt.getD k 0) dd (by have := HDD.out; omega) (by have := HDD.out; omega) (fun k hk => hbG L9 9 k hl9 hb9 hk) (fun k hk => hbG Lt 3 k hl3 HBt.out hk) wc (.inr ⟨bm, 0, rfl, fun k hk => by rw [Nat.zero_add]; exact (hcm k hk).1⟩) (.inr ⟨bt, 0, rfl, fun k hk => by rw [Nat.zero_add]; exact (hct k hk).1⟩)
          clear hd hb9 hcm hct hl9 hl3 hbG hBm hBt HBt HDD
          go_wp2_with fail
          refine cR.mono ?_
          clear cR
          unfold FrC
          generalize dd.tdiv (rgS dd (fun k => L9.getD k 0) (fun k => Lt.getD k 0)) = D9
          generalize dvF (fun k => L9.getD k 0) (rgS dd (fun k => L9.getD k 0) (fun k => Lt.getD k 0)) = M9
          generalize dvF (fun k => Lt.getD k 0) (rgS dd (fun k => L9.getD k 0) (fun k => Lt.getD k 0)) = T9
          rintro e w8 (⟨-, b0, c0, b1, c1, rfl, g0, g1, g2, r0, r1, hbl, hcp⟩ | ⟨-, rfl, hbl⟩)
          · have HD8 := hide (HD.out.step HP.out (HD.out.cur.below hbl) (Kept.of_below hbl))
            have hs := HD.out.sz
            have l0 : b0 < w8.heap.size := Row.lt7 r0 (by omega)
            have l1 : b1 < w8.heap.size := Row.lt7 r1 (by omega)
            have HG : Hid (w.heap.size < b0 ∧ w.heap.size < b1 ∧ b0 ≠ b1) := ⟨by omega, by omega, g2⟩
            have HD9 := hide (HD8.out.alloc HP.out (.cells #[.slice (some ⟨b0, 0, none⟩) 9 c0, .slice (some ⟨b1, 0, none⟩) 3 c1, .int .i64 D9] 26))
            have HR0 := hide (r0.below (bnew w8 (.cells #[.slice (some ⟨b0, 0, none⟩) 9 c0, .slice (some ⟨b1, 0, none⟩) 3 c1, .int .i64 D9] 26)) l0)
            have HR1 := hide (r1.below (bnew w8 (.cells #[.slice (some ⟨b0, 0, none⟩) 9 c0, .slice (some ⟨b1, 0, none⟩) 3 c1, .int .i64 D9] 26)) l1)
            have HBx := hide (Bx.new [.slice (some ⟨b0, 0, none⟩) 9 c0, .slice (some ⟨b1, 0, none⟩) 3 c1, .int .i64 D9] 26 w8)
            clear hbl r0 r1 HD HD8 g0 g1 g2 l0 l1 hs
            go_upto_region 22 with fail
            generalize w8.alloc (.cells #[.slice (some ⟨b0, 0, none⟩) 9 c0, .slice (some ⟨b1, 0, none⟩) 3 c1, .int .i64 D9] 26) = w9 at *
            generalize w8.heap.size = X9 at *
            have HBx' : Hid (Bx X9 [.slice (some ⟨b0, 0, none⟩) 9 c0, .slice (some ⟨b1, 0, none⟩) 3 c1, .int .i64 D9] w9) := HBx.out
            clear HBx
            have HF := hide (drF_end HD9.out.cur HD9.out.kept HP.out HAB.out HG.out.1 HG.out.2.1 HG.out.2.2 D9 c0 c1 hcp HR0.out HR1.out)
            obtain ⟨q0, e0⟩ := HD9.out.res 0 _ rfl
            obtain ⟨q1, e1⟩ := HD9.out.res 1 _ rfl
            obtain ⟨q2, e2⟩ := HD9.out.res 2 _ rfl
            obtain ⟨i0, j0⟩ := HBx'.out 0 _ rfl
            obtain ⟨i1, j1⟩ := HBx'.out 1 _ rfl
            obtain ⟨i2, j2⟩ := HBx'.out 2 _ rfl
            clear HD9 HR0 HR1 HBx' HG
            go_wp2_with fail
            exact bodyPost_ret (v := vFrame D9 (some ⟨b0, 0, none⟩) 9 c0 (some ⟨b1, 0, none⟩) 3 c1) (by simp [results, Try.results29, go_sem, q0, q1, q2]) rfl HF.out
          · have HD8 := hide (HD.out.step HP.out (HD.out.cur.below hbl) (Kept.of_below hbl))
            have HD9 := hide (HD8.out.alloc HP.out (.cells #[.slice none 0 0, .slice none 0 0, .int .i64 0] 26))
            have HBx := hide (Bx.new [.slice none 0 0, .slice none 0 0, .int .i64 0] 26 w8)
            have HS8 : Hid (w.heap.size + 1 ≤ w8.heap.size) := HD8.out.sz
            have HZ9 : Hid (w8.heap.size < (w8.alloc (.cells #[.slice none 0 0, .slice none 0 0, .int .i64 0] 26)).heap.size) := by show _ < _; simp
            clear hbl HD HD8
            go_upto_region 22 with fail
            generalize w8.alloc (.cells #[.slice none 0 0, .slice none 0 0, .int .i64 0] 26) = w9 at *
            generalize w8.heap.size = X9 at *
            have HBx' : Hid (Bx X9 [.slice none 0 0, .slice none 0 0, .int .i64 0] w9) := HBx.out
            clear HBx
            have hxl := HBx'.out
            have s1 : (w9.alloc (.cells #[.int .i64 0, .int .i64 (-1), .int .i64 0, .int .i64 1, .int .i64 0, .int .i64 0, .int .i64 0, .int .i64 0, .int .i64 1] 2)).heap.size = w9.heap.size + 1 := by simp
            have HW : Hid (Below w9.heap.size w9 ((w9.alloc (.cells #[.int .i64 0, .int .i64 (-1), .int .i64 0, .int .i64 1, .int .i64 0, .int .i64 0, .int .i64 0, .int .i64 0, .int .i64 1] 2)).alloc (.cells #[.int .i64 1, .int .i64 2, .int .i64 3] 2))) := (bnew _ _).alloc (by rw [s1]; omega) _
            have HR0 : Hid (Row w9.heap.size 9 (fun k => [0, -1, 0, 1, 0, 0, 0, 0, 1].getD k 0) ((w9.alloc (.cells #[.int .i64 0, .int .i64 (-1), .int .i64 0, .int .i64 1, .int .i64 0, .int .i64 0, .int .i64 0, .int .i64 0, .int .i64 1] 2)).alloc (.cells #[.int .i64 1, .int .i64 2, .int .i64 3] 2))) := (row_lit (w := w9) [0, -1, 0, 1, 0, 0, 0, 0, 1]).below (bnew _ _) (by simp)
            have HR1 : Hid (Row (w9.heap.size + 1) 3 (fun k => [1, 2, 3].getD k 0) ((w9.alloc (.cells #[.int .i64 0, .int .i64 (-1), .int .i64 0, .int .i64 1, .int .i64 0, .int .i64 0, .int .i64 0, .int .i64 0, .int .i64 1] 2)).alloc (.cells #[.int .i64 1, .int .i64 2, .int .i64 3] 2))) := by
              have h := row_lit (w := w9.alloc (.cells #[.int .i64 0, .int .i64 (-1), .int .i64 0, .int .i64 1, .int .i64 0, .int .i64 0, .int .i64 0, .int .i64 0, .int .i64 1] 2)) [1, 2, 3]
              rw [s1] at h
              exact h
            have HDa := hide (HD9.out.step HP.out (HD9.out.cur.below HW.out) (Kept.of_below HW.out))
            have HXa := hide (HBx'.out.below HW.out HZ9.out)
            have HSZ : Hid (w.heap.size + 1 ≤ X9 ∧ w.heap.size + 1 ≤ w9.heap.size ∧ X9 < w9.heap.size) := ⟨HS8.out, by have := HZ9.out; have := HS8.out; omega, HZ9.out⟩
            obtain ⟨i0, j0⟩ := HXa.out 0 _ rfl
            obtain ⟨i1, j1⟩ := HXa.out 1 _ rfl
            obtain ⟨i2, j2⟩ := HXa.out 2 _ rfl
            clear hxl s1 HD9 HBx' HZ9 HW HS8
            go_upto_region 24 with fail
            generalize (w9.alloc (.cells #[.int .i64 0, .int .i64 (-1), .int .i64 0, .int .i64 1, .int .i64 0, .int .i64 0, .int .i64 0, .int .i64 0, .int .i64 1] 2)).alloc (.cells #[.int .i64 1, .int .i64 2, .int .i64 3] 2) = wA at *
            generalize w9.heap.size = B9 at *
            have hbl := below_set37 (B := w.heap.size + 1) (Below.refl _ wA) (b := X9) (.slice (some ⟨B9, 0, none⟩) 9 9) (.slice (some ⟨B9 + 1, 0, none⟩) 3 3) (.int .i64 1) HSZ.out.1
            have n0 : X9 ≠ B9 := by have := HSZ.out; omega
            have n1 : X9 ≠ B9 + 1 := by have := HSZ.out; omega
            have HF := hide (drF_end (HDa.out.cur.belowB (hbl.mono (by omega)) HP.out HAB.out) (HDa.out.kept.belowB (hbl.mono (by omega)) (Nat.le_refl _)) HP.out HAB.out (b0 := B9) (b1 := B9 + 1) (by have := HSZ.out; omega) (by have := HSZ.out; omega) (by omega) 1 9 3 (by omega) (((HR0.out.set (p := ⟨X9, 0, none⟩) n0 _).set (p := ⟨X9, 1, none⟩) n0 _).set (p := ⟨X9, 2, none⟩) n0 _) (((HR1.out.set (p := ⟨X9, 0, none⟩) n1 _).set (p := ⟨X9, 1, none⟩) n1 _).set (p := ⟨X9, 2, none⟩) n1 _))
            have hres := HDa.out.res.below hbl (by omega)
            have hx3 := ((HXa.out.set 0 (.slice (some ⟨B9, 0, none⟩) 9 9)).set 1 (.slice (some ⟨B9 + 1, 0, none⟩) 3 3)).set 2 (.int .i64 1)
            clear i0 j0 i1 j1 i2 j2
            obtain ⟨q0, e0⟩ := hres 0 _ rfl
            obtain ⟨q1, e1⟩ := hres 1 _ rfl
            obtain ⟨q2, e2⟩ := hres 2 _ rfl
            obtain ⟨i0, j0⟩ := hx3 0 _ rfl
            obtain ⟨i1, j1⟩ := hx3 1 _ rfl
            obtain ⟨i2, j2⟩ := hx3 2 _ rfl
            clear HDa HR0 HR1 HXa hbl hres hx3 HSZ
            generalize ((wA.setCell ⟨X9, 0, none⟩ (.slice (some ⟨B9, 0, none⟩) 9 9)).setCell ⟨X9, 1, none⟩ (.slice (some ⟨B9 + 1, 0, none⟩) 3 3)).setCell ⟨X9, 2, none⟩ (.int .i64 1) = wB at *
            go_wp2_with fail
            exact bodyPost_ret (v := vFrame 1 (some ⟨B9, 0, none⟩) 9 9 (some ⟨B9 + 1, 0, none⟩) 3 3) (by simp [results, Try.results29, go_sem, q0, q1, q2]) rfl HF.out

end Go.Proofs.Ytjdbiaoheoialaa
