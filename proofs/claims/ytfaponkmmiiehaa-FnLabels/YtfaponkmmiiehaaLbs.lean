/- Label, the program: what a visit does. -/
import Derived.Test.YtfaponkmmiiehaaLbt
import Derived.Test.YtfaponkmmiiehaaG8f
import Derived.Test.YtfaponkmmiiehaaGrk
namespace Go.Proofs.Ytfaponkmmiiehaa
open Go.RowKit

theorem KpS.kpv {S : Nat → Prop} {G : Nat} {v : Value} {w w1 w' : World} (h : KpS S w w1) (hb : Below G w1 w') (hk : KpV v w1 w') (hv : ∀ x, v.ownBlock = some x → S x) : KpS S w w' :=
  ⟨hb.os.trans h.os, hb.tape.trans h.tape, hb.output.trans h.output, Nat.le_trans h.size hb.size, fun b hb' hs => (hk b (Nat.lt_of_lt_of_le hb' h.size) (fun e => hs (hv b e))).trans (h.block b hb' hs)⟩
theorem Row.same {b n : Nat} {s : Nat → Int} {w w' : World} (hr : Row b n s w) (h : w'.heap[b]? = w.heap[b]?) : Row b n s w' := fun k hk => by
  have q := hr k hk
  exact ⟨(World.cell?_of_block (w := w) (a := ⟨b, k, none⟩) h).trans q.1, (World.frozen?_of_block (w := w) (a := ⟨b, k, none⟩) h).trans q.2⟩
theorem Row.lt {b n : Nat} {s : Nat → Int} {w : World} (hr : Row b n s w) (h0 : 0 < n) : b < w.heap.size := World.block_lt_of_cell? w _ (hr 0 h0).1

/-- what a visit of a labelling makes of the labels and of what waits -/
def lvR (s : Nat → Int) (q : Nat) (c : Int) : Nat → Int := if s q = -1 then updN s q c else s
def lvL (s : Nat → Int) (q : Nat) (L : List Int) : List Int := if s q = -1 then L ++ [(q : Int)] else L

set_option maxRecDepth 100000 in
set_option maxHeartbeats 2000000 in
theorem sprVis_any (W H : Int) (b n cap : Nat) (s : Nat → Int) (c kk : Int) (q : Nat) (hq : q < n) (bp bl bw G : Nat) (v : Value) (L : List Int) (w : World) (hL : L.length ≤ 10000)
    (hp : Bx bp [.int .i64 W, .int .i64 H, .slice (some ⟨b, 0, none⟩) n cap] w) (hlb : Bx bl [.int .i64 c] w) (hw : Bx bw [v] w) (hr : Row b n s w) (ho : w.ownsRow G 2 1 v L.length (ints L))
    (n3 : b ≠ bw) (hob : ∀ x, v.ownBlock = some x → x ≠ b ∧ x ≠ bw) (hG : G ≤ w.heap.size) :
    Calls Try.prog 42 #[.int .i64 kk, .int .i64 q, .pointer (some ⟨bp, 0, none⟩), .pointer (some ⟨bl, 0, none⟩), .pointer (some ⟨bw, 0, none⟩)] w fun e w' => e = .returned (.tuple #[]) ∧
      KpS (fun x => x = b ∨ x = bw ∨ v.ownBlock = some x) w w' ∧ ∃ v', Bx bw [v'] w' ∧ Row b n (lvR s q c) w' ∧ w'.ownsRow G 2 1 v' (lvL s q L).length (ints (lvL s q L)) ∧ (∀ x, v'.ownBlock = some x → v.ownBlock = some x ∨ w.heap.size ≤ x) := by
  obtain ⟨y0, f0⟩ := hr q hq
  have p2 := (hp 2 _ rfl).1
  have l0 := (hlb 0 _ rfl).1
  obtain ⟨w0, w1⟩ := hw 0 _ rfl
  have hbw : bw < w.heap.size := World.block_lt_of_cell? w _ w0
  have hbb : b < w.heap.size := World.block_lt_of_cell? w _ y0
  have HW := hide hw
  have HR := hide hr
  have HO := hide ho
  have HOB := hide hob
  clear hp hlb hw hr ho hob
  unfold lvR lvL
  by_cases hs : s q = -1
  · have qs : (s q == -1) = true := by rw [hs]; rfl
    rw [hs] at y0
    have HS := hide hs
    simp only [if_pos hs]
    clear qs hs
    have HE : Hid (∀ u, (Go.World.setCell w ⟨b, q, none⟩ u).heap[bw]? = w.heap[bw]?) := fun u => heap_setCell_other w ⟨b, q, none⟩ bw u (fun e => n3 e.symm)
    have l0' : (w.setCell ⟨b, q, none⟩ (.int .i64 c)).cell? ⟨bw, 0, none⟩ = some v := (World.cell?_of_block (w := w) (a := ⟨bw, 0, none⟩) (HE.out _)).trans w0
    have f0' : (w.setCell ⟨b, q, none⟩ (.int .i64 c)).frozen? ⟨bw, 0, none⟩ = false := (World.frozen?_of_block (w := w) (a := ⟨bw, 0, none⟩) (HE.out _)).trans w1
    have HO1 : Hid ((w.setCell ⟨b, q, none⟩ (.int .i64 c)).ownsRow G 2 1 v L.length (ints L)) := owns_keep HO.out (fun x hx => heap_setCell_other w ⟨b, q, none⟩ x _ (HOB.out x hx).1)
    have HR1 := hide (Row.updN HR.out hq c)
    have HK1 : Hid (KpS (fun x => x = b ∨ x = bw ∨ v.ownBlock = some x) w (w.setCell ⟨b, q, none⟩ (.int .i64 c))) := (KpS.refl _ w).setCell (a := ⟨b, q, none⟩) (.inl rfl) _
    have HG : Hid (G ≤ (w.setCell ⟨b, q, none⟩ (.int .i64 c)).heap.size) := Nat.le_trans hG HK1.out.size
    have hsz := HK1.out.size
    go_enter Try.func42, Try.ntmps42
    go_upto_region 2 with fail
    generalize w.setCell ⟨b, q, none⟩ (.int .i64 c) = wa at *
    have HL : Hid (L.length ≤ 1048576) := by show _ ≤ _; omega
    have HBB := hide (And.intro hbw hbb)
    have HSZ := hide hsz
    clear hsz y0 p2 l0 w0 w1 hbw hbb
    go_wp2_with (refine growN _ rfl _ _ rfl G v L.length L rfl wa HO1.out (Below.refl _ _) HG.out (q : Int) rfl HL.out ?_)
    intro v' w' ho' hb' hs' hk' hm'
    obtain ⟨bx, cx, hvx, -, -⟩ := own_partsL ho' (by omega)
    subst hvx
    have hbwa : bw < wa.heap.size := Nat.lt_of_lt_of_le HBB.out.1 HSZ.out
    have hba : b < wa.heap.size := Nat.lt_of_lt_of_le HBB.out.2 HSZ.out
    have e1 := hk' bw hbwa (fun e => (HOB.out bw e).2 rfl)
    have e2 := hk' b hba (fun e => (HOB.out b e).1 rfl)
    have z0 : w'.cell? ⟨bw, 0, none⟩ = some v := (World.cell?_of_block (w := wa) (a := ⟨bw, 0, none⟩) e1).trans l0'
    have z1 : w'.frozen? ⟨bw, 0, none⟩ = false := (World.frozen?_of_block (w := wa) (a := ⟨bw, 0, none⟩) e1).trans f0'
    have hv' : ∀ x, (Value.slice (some ⟨bx, 0, none⟩) (L.length + 1) cx).ownBlock = some x → v.ownBlock = some x ∨ wa.heap.size ≤ x := fun x hx => hm' x hx
    have HO2 : Hid ((w'.setCell ⟨bw, 0, none⟩ (.slice (some ⟨bx, 0, none⟩) (L.length + 1) cx)).ownsRow G 2 1 (.slice (some ⟨bx, 0, none⟩) (L.length + 1) cx) (L.length + 1) (ints (L ++ [(q : Int)]))) := owns_keep ho' (fun x hx => heap_setCell_other w' ⟨bw, 0, none⟩ x _ (by
      rcases hv' x hx with h | h
      · exact (HOB.out x h).2
      · show x ≠ bw; omega))
    have HR2 : Hid (Row b n (updN s q c) (w'.setCell ⟨bw, 0, none⟩ (.slice (some ⟨bx, 0, none⟩) (L.length + 1) cx))) := (HR1.out.same e2).same (heap_setCell_other w' ⟨bw, 0, none⟩ b _ n3)
    have HK2 : Hid (KpS (fun x => x = b ∨ x = bw ∨ v.ownBlock = some x) w (w'.setCell ⟨bw, 0, none⟩ (.slice (some ⟨bx, 0, none⟩) (L.length + 1) cx))) := (HK1.out.kpv hb' hk' (fun x hx => .inr (.inr hx))).setCell (a := ⟨bw, 0, none⟩) (.inr (.inl rfl)) _
    have HW2 : Hid (Bx bw [.slice (some ⟨bx, 0, none⟩) (L.length + 1) cx] (w'.setCell ⟨bw, 0, none⟩ (.slice (some ⟨bx, 0, none⟩) (L.length + 1) cx))) := by
      intro j u hu
      cases j with
      | zero => cases hu; exact ⟨World.cell?_setCell_same _ _ _ z0, by simpa using z1⟩
      | succ j => simp at hu
    have HV : Hid (∀ x, (Value.slice (some ⟨bx, 0, none⟩) (L.length + 1) cx).ownBlock = some x → v.ownBlock = some x ∨ w.heap.size ≤ x) := fun x hx => (hv' x hx).imp id (fun h => Nat.le_trans HSZ.out h)
    clear ho' hb' hs' hk' hm' e1 e2 hv' HO1 HR1 HK1 HG l0' f0' hbwa hba
    go_wp2_with fail
    go_end0
    exact ⟨rfl, HK2.out, _, HW2.out, HR2.out, by rw [List.length_append]; exact HO2.out, HV.out⟩
  · have qs : (s q == -1) = false := by simp [hs]
    simp only [if_neg hs]
    clear hs
    go_enter Try.func42, Try.ntmps42
    go_wp2_with fail
    go_end0
    exact ⟨rfl, KpS.refl _ _, v, HW.out, HR.out, HO.out, fun x hx => .inl hx⟩

set_option maxRecDepth 100000 in
theorem sprVis_fn : ∀ ar w, Sem.run Try.prog (callFunc 42 ar) w = .ok (.enter 42 ar) w := fun _ _ => rfl

end Go.Proofs.Ytfaponkmmiiehaa
