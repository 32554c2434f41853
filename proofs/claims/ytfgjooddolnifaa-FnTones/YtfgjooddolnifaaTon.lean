/- The sizes of a list: the specification and the program. -/
import Derived.Test.YtfgjooddolnifaaFls
namespace Go.Proofs.Ytfgjooddolnifaa
open Ieee Go.RowKit
attribute [local go_sem] run_store_float alloc_drewN setCell_drewN shape?_drewN

/-- how many sizes are told -/
def tonN (len : Nat) : Nat := if 4096 < len then 0 else len
/-- each size is that of its pair -/
def tonP (F : Nat → Nat) (k r : Nat) : Prop := IsSize (F (k * 2)) (F (k * 2 + 1)) r

set_option maxRecDepth 100000 in
theorem infoF : ∃ i, Try.prog.info? 31 = some i ∧ i.zero = some (.float .f64 0) ∧ i.size = 1 ∧ i.bytes = 8 := ⟨_, rfl, rfl, rfl, rfl⟩
/-- an append of one float to a list of the call's own: the walk's step -/
theorem growF1 (w : World) {ops : Array Oper} {rest : List Oper} {o : Oper} {a : Act} {Q : Exit → Act → World → Prop} (hgd : o.guard = none) (s x : Operand)
    (ho : o.op = .call { callee := .builtin .append, args := #[s, x], argTypes := #[26, 26] }) (B : Nat) (v : Value) (n : Nat) (L : List Nat) (hs : a.eval s = v) (w0 : World) (hown : w.ownsRow B 31 1 v n (fls L))
    (hb : Below B w0 w) (hB : B ≤ w.heap.size) (z : Nat) (hx : a.eval x = .slice (some ⟨w.heap.size, 0, none⟩) 1 1) (hn : n ≤ 1048576)
    (h : ∀ v' w', w'.ownsRow B 31 1 v' (n + 1) (fls (L ++ [z])) → Below B w0 w' → w.heap.size < w'.heap.size → wpList Try.prog ops Q rest (a.put o.dst v') w') :
    wpList Try.prog ops Q (o :: rest) a (w.alloc (.cells #[.float .f64 z] 31)) := by
  obtain ⟨ti, hi1, hi2, hi3, hi4⟩ := infoF
  exact growV w hgd s x 26 ho B 31 ti (.float .f64 0) 1 8 Try.underlying26 hi1 hi2 hi3 hi4 rfl (by omega) v n L hs w0 hown hb hB [z] 1 1 hx rfl (by unfold maxLen; omega) (by omega) h

set_option maxRecDepth 100000 in
set_option maxHeartbeats 1000000 in
theorem implTones_any (a : Option Addr) (len cap : Nat) (F : Nat → Nat) (hl : len ≤ 1048576) (w : World) (h : PxV a (len * 2) (flt F) w) :
    Calls Try.prog 10 #[.slice a len cap] w (LsP (tonN len) (tonN len) (tonP F) w) := by
  unfold tonN
  by_cases hm : 4096 < len
  · rw [if_pos hm]
    have hm' : (4096 : Int) < (len : Int) := by omega
    clear h
    go_enter Try.func10, Try.ntmps10
    go_wp2_with fail
    go_ret
    exact ⟨_, _, 0, fun _ => 0, rfl, .inl rfl, .inl rfl, Below.refl _ _, fun j hj => absurd hj (Nat.not_lt_zero _)⟩
  · rw [if_neg hm]
    have hm' : ¬ (4096 : Int) < (len : Int) := by omega
    have hmk := make_fs len hl w
    have HP := hide h
    clear h hm
    go_enter Try.func10, Try.ntmps10
    go_wp2_with fail
    go_loopw [4, 5, 14] (fun _ _ i wr => ∃ k : Nat, k ≤ len ∧ i = .int .i64 k ∧ PartP w.heap.size len k (tonP F) wr ∧ Below w.heap.size w wr ∧ w.heap.size < wr.heap.size) (fun _ _ i _ => len - (intOf i).toNat)
    case atStart => exact ⟨0, by omega, rfl, (rowF_new len 31 w).partP, bnew _ _, by simp⟩
    case round =>
      obtain ⟨k, hk, rfl, hp, hb, hs⟩ := hrel
      clear hmk
      by_cases hlt : k < len
      · obtain ⟨b, off, rfl, -, hc⟩ := (HP.out.below hb).at (by omega)
        have hz : wr.cell? ⟨b, off + k * 2, none⟩ = some (.float .f64 (F (k * 2))) := hc (k * 2) (by omega)
        have hz' : wr.cell? ⟨b, off + k * 2 + 1, none⟩ = some (.float .f64 (F (k * 2 + 1))) := hc (k * 2 + 1) (by omega)
        have hbl : b < wr.heap.size := World.block_lt_of_cell? _ _ hz
        clear HP hc
        go_wp2_with fail
        refine (size_impl _ _ _).mono ?_
        rintro e w1 ⟨⟨r, rfl, hr⟩, hb1⟩
        have hb2 : Below wr.heap.size wr w1 := bnext (bnew _ _) (Nat.le_refl _) hb1
        have hp1 := hp.below hb2 hs
        have HB1 := hide (bnext hb (Nat.le_refl _) hb2)
        have hs1 : w.heap.size < w1.heap.size := Nat.lt_of_lt_of_le hs hb2.size
        obtain ⟨⟨x, hx, _⟩, f0⟩ := hp1 k hlt
        have HPt := hide (hp1.step hlt r hr)
        clear hb1 hb2 hp hb hs hz hz' hp1 hr hbl
        go_wp2_with fail
        exact ⟨⟨k + 1, by omega, rfl, HPt.out, HB1.out.setCell (Nat.le_refl _) _, by simpa using hs1⟩, by simp [intOf]; omega⟩
      · obtain rfl : k = len := by omega
        clear HP
        go_wp2
        go_ret
        obtain ⟨r, hr, hP⟩ := hp.row
        exact ⟨_, _, w.heap.size, r, rfl, hr.ow, .inr (Nat.le_refl _), hb, hP⟩

set_option maxRecDepth 100000 in
set_option maxHeartbeats 1000000 in
theorem specTones_any (a : Option Addr) (len cap : Nat) (F : Nat → Nat) (hl : len ≤ 1048576) (w : World) (h : PxV a (len * 2) (flt F) w) :
    Calls Try.prog 15 #[.slice a len cap] w (LsP (tonN len) (tonN len) (tonP F) w) := by
  have HB0 : Hid (Below w.heap.size w (w.alloc (.cells #[] 31))) := bnew _ _
  unfold tonN
  by_cases hm : 4096 < len
  · rw [if_pos hm]
    have hm' : (4096 : Int) < (len : Int) := by omega
    clear h
    go_enter Try.func15, Try.ntmps15
    go_wp2_with fail
    go_ret
    exact ⟨_, _, 0, fun _ => 0, rfl, .inl rfl, .inl rfl, HB0.out, fun j hj => absurd hj (Nat.not_lt_zero _)⟩
  · rw [if_neg hm]
    have hm' : ¬ (4096 : Int) < (len : Int) := by omega
    have HP := hide h
    clear h hm
    go_enter Try.func15, Try.ntmps15
    go_wp2_with fail
    go_loopw [3, 4] (fun v i wr => ∃ (k : Nat) (L : List Nat), k ≤ len ∧ i = .int .i64 k ∧ L.length = k ∧ Each (tonP F) L ∧ wr.ownsRow w.heap.size 31 1 v k (fls L) ∧ Below w.heap.size w wr ∧ w.heap.size < wr.heap.size) (fun _ i _ => len - (intOf i).toNat)
    case atStart => exact ⟨0, [], by omega, rfl, rfl, Each.nil _, World.ownsRow_lit w #[] 0 (Nat.le_refl _) (by unfold maxLen; omega) rfl, HB0.out, by simp⟩
    case round =>
      obtain ⟨k, L, hk, rfl, hL, hE, ho, hb, hs⟩ := hrel
      clear HB0
      by_cases hlt : k < len
      · obtain ⟨b, off, rfl, -, hc⟩ := (HP.out.below hb).at (by omega)
        have hz : wr.cell? ⟨b, off + k * 2, none⟩ = some (.float .f64 (F (k * 2))) := hc (k * 2) (by omega)
        have hz' : wr.cell? ⟨b, off + k * 2 + 1, none⟩ = some (.float .f64 (F (k * 2 + 1))) := hc (k * 2 + 1) (by omega)
        have HO := hide ho
        have HB := hide hb
        have HS := hide hs
        have HE := hide hE
        have HL := hide hL
        have HK : Hid (k ≤ 1048576) := by show _ ≤ _; omega
        clear HP hc ho hb hs hE hL
        go_wp2_with fail
        refine (size_spec _ _ _).mono ?_
        rintro e w1 ⟨⟨r, rfl, hr⟩, hb1⟩
        have HO1 := hide (ownsRow_below' HO.out hb1)
        have HB1 := hide (bnext HB.out (Nat.le_refl _) hb1)
        have HS1 : Hid (w.heap.size < w1.heap.size) := Nat.lt_of_lt_of_le HS.out hb1.size
        have HE1 : Hid (Each (tonP F) (L ++ [r])) := HE.out.snoc (by rw [HL.out]; exact hr)
        have HL1 : Hid ((L ++ [r]).length = k + 1) := by
          show _ = _
          rw [List.length_append, HL.out]; rfl
        clear hr hb1 HO HB HS HE HL hz hz'
        go_wp2_with (refine growF1 _ rfl _ _ rfl w.heap.size _ k L rfl w HO1.out HB1.out (Nat.le_of_lt HS1.out) r rfl HK.out ?_)
        intro v' w' ho' hb' hs'
        have HO' := hide ho'
        have HB' := hide hb'
        have HS' : Hid (w.heap.size < w'.heap.size) := Nat.lt_trans HS1.out hs'
        clear HO1 HB1 HS1 ho' hb' hs'
        go_wp2_with fail
        exact ⟨⟨k + 1, L ++ [r], by omega, rfl, HL1.out, HE1.out, HO'.out, HB'.out, HS'.out⟩, by simp [intOf]; omega⟩
      · obtain rfl : k = len := by omega
        clear HP
        go_wp2
        go_ret
        obtain ⟨a', cap', b', rfl, ow, hB⟩ := owv_of ho
        rw [Nat.mul_one] at ow hB
        exact ⟨a', cap', b', _, rfl, ow, hB, hb, fun j hj => hE j (by omega)⟩

theorem tonP_same {F : Nat → Nat} {k r r' : Nat} (h : tonP F k r) (h' : tonP F k r') : same r r' := IsSize.same h h'

end Go.Proofs.Ytfgjooddolnifaa
