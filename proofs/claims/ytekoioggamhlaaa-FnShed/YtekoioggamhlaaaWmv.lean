/- Watershed, the program: what a visit does. -/
import Derived.Test.YtekoioggamhlaaaWht
import Derived.Test.YtekoioggamhlaaaWst
import Derived.Deep.RegionHeld
namespace Go.Proofs.Ytekoioggamhlaaa
open Go.RowKit

theorem Row.sameH {b n : Nat} {s : Nat → Int} {w w' : World} (hr : Row b n s w) (h : w'.heap[b]? = w.heap[b]?) : Row b n s w' := fun k hk => by
  have q := hr k hk
  exact ⟨(World.cell?_of_block (w := w) (a := ⟨b, k, none⟩) h).trans q.1, (World.frozen?_of_block (w := w) (a := ⟨b, k, none⟩) h).trans q.2⟩
theorem Row.lt' {b n k : Nat} {s : Nat → Int} {w : World} (hr : Row b n s w) (h : k < n) : b < w.heap.size := World.block_lt_of_cell? w _ (hr k h).1
theorem KpS.thenS {S T : Nat → Prop} {a b c : World} (h : KpS S a b) (k : KpS T b c) (hst : ∀ x, x < a.heap.size → T x → S x) : KpS S a c :=
  ⟨k.os.trans h.os, k.tape.trans h.tape, k.output.trans h.output, Nat.le_trans h.size k.size, fun j hj hs => (k.block j (Nat.lt_of_lt_of_le hj h.size) (fun e => hs (hst j hj e))).trans (h.block j hj hs)⟩
theorem keep_cell {S : Nat → Prop} {w w' : World} (hk : KpS S w w') {x : Addr} {y : Value} (h : w.cell? x = some y) (hs : ¬ S x.block) : w'.cell? x = some y := by
  obtain ⟨b, o, i⟩ := x
  exact (World.cell?_of_block (hk.block b (World.block_lt_of_cell? w _ h) hs)).trans h
/-- the box of a flood -/
abbrev flC (W H : Int) (px : Value) (bo n capo : Nat) (v : Value) (c : Nat) : List Value := [.int .i64 W, .int .i64 H, px, .slice (some ⟨bo, 0, none⟩) n capo, v, .int .i64 c]

theorem sk5_of {W H : Int} {px : Value} {bo n capo c : Nat} {v v' : Value} {bf bq zb zo q : Nat} {iq : Int} {wa w5 : World} (hx : Bx bf ((flC W H px bo n capo v c).set 4 v') w5) (w0 : wa.cell? ⟨bq, 0, none⟩ = some (.pointer (some ⟨bf, 0, none⟩))) (xa : wa.cell? ⟨zb, zo + q, none⟩ = some (.int .i64 iq)) (hk : KpS (fun y => y = bf ∨ v.ownBlock = some y) wa.drew w5) (hs : (bq ≠ bf ∧ v.ownBlock ≠ some bq) ∧ zb ≠ bf ∧ v.ownBlock ≠ some zb) :
    w5.cell? ⟨bf, 2, none⟩ = some px ∧ w5.cell? ⟨bf, 5, none⟩ = some (.int .i64 c) ∧ w5.cell? ⟨bq, 0, none⟩ = some (.pointer (some ⟨bf, 0, none⟩)) ∧ w5.cell? ⟨zb, zo + q, none⟩ = some (.int .i64 iq) :=
  ⟨(hx 2 _ rfl).1, (hx 5 _ rfl).1, keep_cell hk (w := wa.drew) w0 (fun h => by rcases h with h | h; (exact hs.1.1 h); (exact hs.1.2 h)), keep_cell hk (w := wa.drew) xa (fun h => by rcases h with h | h; (exact hs.2.1 h); (exact hs.2.2 h))⟩

set_option maxRecDepth 100000 in
set_option maxHeartbeats 4000000 in
theorem meetVis_any (im : Nat → Int) (W H : Int) (ap : Option Addr) (n capp bo capo bf B : Nat) (s : Ws) (kk : Int) (p q : Nat) (hq : q < n) (hp : p < n) (hi : WsI n s) (v : Value) (L : List I3) (hH : hpI L) (hPm : L.Perm (itms im s)) (bq bp : Nat) (w : World)
    (hb : Bx bf (flC W H (.slice ap n capp) bo n capo v s.c) w) (hq1 : Bx bq [.pointer (some ⟨bf, 0, none⟩)] w) (hp1 : Bx bp [.int .i64 p] w) (hr : Row bo n s.o w) (hx : Px ap n im w) (ho : w.ownsRow B 59 3 v L.length (ints (hl L)))
    (n1 : bo ≠ bf) (n2 : bq ≠ bf) (n3 : bq ≠ bo) (n4 : bp ≠ bf) (n5 : bp ≠ bo) (hob : ∀ x, v.ownBlock = some x → x ≠ bf ∧ x ≠ bo ∧ x ≠ bq ∧ x ≠ bp) (hx2 : ∀ z off, ap = some ⟨z, off, none⟩ → z ≠ bo ∧ z ≠ bf ∧ v.ownBlock ≠ some z) (hL : L.length ≤ 4096) (hc : s.c ≤ 4096) (hB : B ≤ w.heap.size) :
    Calls Try.prog 42 #[.int .i64 kk, .int .i64 q, .pointer (some ⟨bq, 0, none⟩), .pointer (some ⟨bp, 0, none⟩)] w fun e w' => e = .returned (.tuple #[]) ∧
      KpS (fun y => y = bf ∨ y = bo ∨ v.ownBlock = some y) w w' ∧ ∃ v' L', Bx bf (flC W H (.slice ap n capp) bo n capo v' (ms1 p s q).c) w' ∧ Row bo n (ms1 p s q).o w' ∧ w'.ownsRow B 59 3 v' L'.length (ints (hl L')) ∧ hpI L' ∧ L'.Perm (itms im (ms1 p s q)) ∧ Moved v v' w := by
  obtain ⟨y0, f0⟩ := hr q hq
  obtain ⟨y1, -⟩ := hr p hp
  obtain ⟨zb, zo, rfl, x0⟩ := hx.at hq
  have z3 := (hb 3 _ rfl).1
  have z2 := (hb 2 _ rfl).1
  have z5 := (hb 5 _ rfl).1
  have w0 := (hq1 0 _ rfl).1
  have w1 := (hp1 0 _ rfl).1
  by_cases h0 : s.o q = 0
  case neg =>
    have e : ms1 p s q = s := ms1_no (by rw [Int.toNat_natCast]; exact h0)
    rw [e]
    have q0 : (s.o q == 0) = false := by simp [h0]
    have HE : Hid (KpS (fun y => y = bf ∨ y = bo ∨ v.ownBlock = some y) w w ∧ ∃ v' L', Bx bf (flC W H (.slice (some ⟨zb, zo, none⟩) n capp) bo n capo v' s.c) w ∧ Row bo n s.o w ∧ w.ownsRow B 59 3 v' L'.length (ints (hl L')) ∧ hpI L' ∧ L'.Perm (itms im s) ∧ Moved v v' w) := ⟨KpS.refl _ _, v, L, hb, hr, ho, hH, hPm, fun b hb => .inl hb⟩
    clear hb hq1 hp1 hr hx ho hH hPm hi hx2 hob h0 y1 e
    generalize s.o q = y at *
    go_enter Try.func42, Try.ntmps42
    go_wp2_with fail
    go_end0
    exact ⟨rfl, HE.out⟩
  have e : ms1 p s q = ⟨updN s.o q (s.o p), s.W ++ [q], updN s.t q s.c, s.c + 1⟩ := by
    have := ms1_yes (p := p) (s := s) (x := (q : Int)) (by rw [Int.toNat_natCast]; exact h0)
    rw [Int.toNat_natCast] at this
    exact this
  have HIt := hide (itms_put (im := im) (n := n) (p := p) (s := s) (x := (q : Int)) hi (by rw [Int.toNat_natCast]; exact h0) hPm)
  rw [e] at HIt ⊢
  rw [Int.toNat_natCast] at HIt
  rw [h0] at y0
  obtain ⟨wa, hwa⟩ : ∃ wa, (w.setCell ⟨bo, q, none⟩ (.int .i64 (s.o p))).drew = wa := ⟨_, rfl⟩
  have hoth : ∀ b, b ≠ bo → wa.heap[b]? = w.heap[b]? := fun b hb => by rw [← hwa]; exact heap_setCell_other w ⟨bo, q, none⟩ b _ hb
  have HXa := hide (hb.sameB (hoth bf n1.symm))
  have HQa := hide (hq1.sameB (hoth bq n3))
  have HPa := hide (hp1.sameB (hoth bp n5))
  have HRa : Hid (Row bo n (updN s.o q (s.o p)) wa) := by
    show Row _ _ _ _
    rw [← hwa]; exact Row.updN hr hq _
  have HOa : Hid (wa.ownsRow B 59 3 v L.length (ints (hl L))) := owns_keep ho (fun x hx => hoth x (hob x hx).2.1)
  have HKa : Hid (KpS (fun y => y = bf ∨ y = bo ∨ v.ownBlock = some y) w wa) := by
    show KpS _ _ _
    rw [← hwa]; exact ((KpS.refl _ w).setCell (a := ⟨bo, q, none⟩) (.inr (.inl rfl)) _).drew
  have hxa : wa.cell? ⟨zb, zo + q, none⟩ = some (.int .i64 (im q)) := (World.cell?_of_block (w := w) (a := ⟨zb, zo + q, none⟩) (hoth zb (hx2 zb zo rfl).1)).trans x0
  have HZX := hide (hx2 zb zo rfl)
  have hBa : B ≤ wa.heap.size := Nat.le_trans hB HKa.out.size
  have HNV : Hid (v.ownBlock ≠ some bf) := fun h => (hob bf h).1 rfl
  have HOB := hide hob
  have HNN := hide (And.intro n1 (And.intro n2 n4))
  clear hb hq1 hp1 hr hx ho hPm hi hx2 hob h0 e hoth
  have cP := put_any bf 4 (flC W H (.slice (some ⟨zb, zo, none⟩) n capp) bo n capo v s.c) v rfl L (im q, (s.c : Int), (q : Int)) B wa.drew HXa.out.drewB (ownsRow_below' HOa.out (Below.refl _ _).drew) HNV.out (by omega) hBa hH
  generalize s.o p = op at *
  generalize im q = iq at *
  go_enter Try.func42, Try.ntmps42
  go_upto_region 1 with fail
  go_region
  try rw [hwa]
  clear hwa y0 f0 y1 x0 z3 z2 z5 w0 w1
  obtain ⟨z2, -⟩ := HXa.out 2 _ rfl
  obtain ⟨z5, -⟩ := HXa.out 5 _ rfl
  obtain ⟨w0, -⟩ := HQa.out 0 _ rfl
  have SKd : Hid (wa.drew.cell? ⟨bf, 2, none⟩ = some (.slice (some ⟨zb, zo, none⟩) n capp) ∧ wa.drew.cell? ⟨bf, 5, none⟩ = some (.int .i64 s.c) ∧ wa.drew.cell? ⟨bq, 0, none⟩ = some (.pointer (some ⟨bf, 0, none⟩)) ∧ wa.drew.cell? ⟨zb, zo + q, none⟩ = some (.int .i64 iq)) := ⟨z2, z5, w0, hxa⟩
  have HSK : Hid ((bq ≠ bf ∧ v.ownBlock ≠ some bq) ∧ zb ≠ bf ∧ v.ownBlock ≠ some zb) := ⟨⟨HNN.out.2.1, fun h => (HOB.out bq h).2.2.1 rfl⟩, HZX.out.2⟩
  go_upto_region 2 with fail
  go_region_held (fun (w' : World) => w'.cell? ⟨bf, 2, none⟩ = some (.slice (some ⟨zb, zo, none⟩) n capp) ∧ w'.cell? ⟨bf, 5, none⟩ = some (.int .i64 s.c) ∧ w'.cell? ⟨bq, 0, none⟩ = some (.pointer (some ⟨bf, 0, none⟩)) ∧ w'.cell? ⟨zb, zo + q, none⟩ = some (.int .i64 iq))
    (first | with_reducible exact SKd.out | with_reducible exact SK5)
    ((go_at_call 43; (with_reducible refine cP.mono ?_); rintro e w5 ⟨rfl, v', L', hp5, hh5, hx5, ho5, hk5, hm5⟩; have SK5 := sk5_of hx5 w0 hxa hk5 HSK.out))
  have hbf5 : bf < wa.heap.size := World.block_lt_of_cell? wa ⟨bf, 2, none⟩ z2
  have hbo5 : bo < wa.heap.size := HRa.out.lt' hp
  have hv5 : ∀ x, v'.ownBlock = some x → x ≠ bf := fun x hx => by
    rcases hm5 x hx with h | h
    · exact (HOB.out x h).1
    · have : wa.heap.size ≤ x := h
      omega
  have w05 := SK5.2.2.1
  obtain ⟨z55, g55⟩ := hx5 5 _ rfl
  have HX6 : Hid (Bx bf (flC W H (.slice (some ⟨zb, zo, none⟩) n capp) bo n capo v' (s.c + 1)) (w5.setCell ⟨bf, 5, none⟩ (.int .i64 ((s.c : Int) + 1)))) := hx5.set 5 _
  have HR6 : Hid (Row bo n (updN s.o q op) (w5.setCell ⟨bf, 5, none⟩ (.int .i64 ((s.c : Int) + 1)))) := (HRa.out.sameH (hk5.block bo hbo5 (fun h => by rcases h with h | h; (exact HNN.out.1 h); (exact (HOB.out bo h).2.1 rfl)))).sameH (heap_setCell_other w5 ⟨bf, 5, none⟩ bo _ HNN.out.1)
  have HO6 : Hid ((w5.setCell ⟨bf, 5, none⟩ (.int .i64 ((s.c : Int) + 1))).ownsRow B 59 3 v' L'.length (ints (hl L'))) := ownsRow_setCell_other ho5 (a := ⟨bf, 5, none⟩) (fun h => hv5 bf h rfl) _
  have HK6 : Hid (KpS (fun y => y = bf ∨ y = bo ∨ v.ownBlock = some y) w (w5.setCell ⟨bf, 5, none⟩ (.int .i64 ((s.c : Int) + 1)))) := (HKa.out.drew.thenS hk5 (fun x _ h => h.imp id .inr)).setCell (a := ⟨bf, 5, none⟩) (.inl rfl) _
  have HM6 : Hid (Moved v v' w) := fun b hb => (hm5 b hb).imp id (fun h => Nat.le_trans HKa.out.size h)
  have HP6 := hide (hp5.trans HIt.out)
  have HH6 := hide hh5
  clear hp5 hh5 hx5 ho5 hk5 hm5 hbf5 hbo5 hv5 SK5 SKd cP HXa HQa HPa HRa HOa HKa z2 z5 w0 hxa
  go_wp2_with fail
  go_end0
  exact ⟨rfl, HK6.out, v', L', HX6.out, HR6.out, HO6.out, HH6.out, HP6.out, HM6.out⟩

end Go.Proofs.Ytekoioggamhlaaa
