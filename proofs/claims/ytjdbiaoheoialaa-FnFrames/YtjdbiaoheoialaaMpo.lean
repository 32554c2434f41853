/- A frame as one value. -/
import Derived.Test.YtjdbiaoheoialaaRig
import Derived.Test.YtjdbiaoheoialaaRFrm
import Derived.BigRegion
namespace Go.Proofs.Ytjdbiaoheoialaa
open Go.RowKit Go.Lib
attribute [local go_sem ↓] Go.wp_at_zero Go.wp_at_succ

def sel (c : Bool) (M : Nat → Int) (k : Nat) : Int := if c then M k else 0
def selD (c : Bool) (D : Int) : Int := if c then D else 0
def len93 (n0 n1 : Nat) : Bool := decide (n0 = 9) && decide (n1 = 3)
def frI (D : Int) (n0 : Nat) (M : Nat → Int) (n1 : Nat) (T : Nat → Int) : Bool := len93 n0 n1 && rightB M T D
theorem mapV_no (M T : Nat → Int) (D : Int) : mapV (sel false M) (sel false T) (selD false D) = .agg #[.int .i64 0, .int .i64 0, .int .i64 0, .int .i64 0, .int .i64 0, .int .i64 0, .int .i64 0, .int .i64 0, .int .i64 0, .int .i64 0, .int .i64 0, .int .i64 0, .int .i64 0] := rfl
theorem mapV_yes (M T : Nat → Int) (D : Int) : mapV (sel true M) (sel true T) (selD true D) = mapV M T D := rfl
def MpR (D : Int) (n0 : Nat) (M : Nat → Int) (n1 : Nat) (T : Nat → Int) (w : World) (e : Ending) (w' : World) : Prop :=
  e = .returned (.tuple #[mapV (sel (len93 n0 n1) M) (sel (len93 n0 n1) T) (selD (len93 n0 n1) D), .bool (frI D n0 M n1 T)]) ∧ Below w.heap.size w w'

theorem St.range {w0 : World} {L : List BoxT} {O : List OwnT} {w : World} (h : St w0 L O w) (i : Nat) {b : Nat} {vs : List Value} (hm : L[i]? = some (b, vs)) : w.rangeAt b 0 vs := fun j v hv => by
  rw [Nat.zero_add]; exact h.cell i hm j hv
theorem St.thereB {w0 : World} {L : List BoxT} {O : List OwnT} {w : World} (h : St w0 L O w) (i : Nat) {b : Nat} {vs : List Value} (hm : L[i]? = some (b, vs)) : w.there b 0 vs.length := fun j hj => by
  rw [Nat.zero_add, h.cell i hm j (List.getElem?_eq_getElem hj), h.free i hm j (List.getElem?_eq_getElem hj)]
  exact ⟨rfl, rfl⟩
theorem St.neB2 {w0 : World} {L : List BoxT} {O : List OwnT} {w : World} (h : St w0 L O w) (i k : Nat) {b c : Nat} {vs us : List Value} (hm : L[i]? = some (b, vs)) (hk : L[k]? = some (c, us)) (hne : i ≠ k) : b ≠ c := by
  have hn := h.nd
  unfold blocks at hn
  have hn2 := (List.nodup_append.1 hn).1
  intro e
  subst e
  have h1 : (L.map (fun x => x.1))[i]? = some b := by rw [List.getElem?_map, hm]; rfl
  have h2 : (L.map (fun x => x.1))[k]? = some b := by rw [List.getElem?_map, hk]; rfl
  exact hne ((List.getElem?_inj (List.getElem?_eq_some_iff.1 h1).1 hn2).1 (h1.trans h2.symm))

set_option linter.unusedSimpArgs false in
set_option maxRecDepth 100000 in
set_option maxHeartbeats 8000000 in
theorem mappingOf_any (D : Int) (a0 : Option Addr) (n0 c0 : Nat) (M : Nat → Int) (a1 : Option Addr) (n1 c1 : Nat) (T : Nat → Int) (w : World) (h : Px a0 n0 M w) (h' : Px a1 n1 T w) :
    Calls Try.prog 20 #[vFrame D a0 n0 c0 a1 n1 c1] w (MpR D n0 M n1 T w) := by
  have HS0 := hide (((St.start w).box [.slice a0 n0 c0, .slice a1 n1 c1, .int .i64 D] 26).box' [.int .i64 0, .int .i64 0, .int .i64 0, .int .i64 0, .int .i64 0, .int .i64 0, .int .i64 0, .int .i64 0, .int .i64 0, .int .i64 0, .int .i64 0, .int .i64 0, .int .i64 0] 48 (b := w.heap.size + 1) (by simp))
  obtain ⟨wA, hA⟩ : ∃ wA, wA = (w.alloc (.cells [.slice a0 n0 c0, .slice a1 n1 c1, .int .i64 D].toArray 26)).alloc (.cells [.int .i64 0, .int .i64 0, .int .i64 0, .int .i64 0, .int .i64 0, .int .i64 0, .int .i64 0, .int .i64 0, .int .i64 0, .int .i64 0, .int .i64 0, .int .i64 0, .int .i64 0].toArray 48) := ⟨_, rfl⟩
  have hA' : (w.alloc (.cells #[.slice a0 n0 c0, .slice a1 n1 c1, .int .i64 D] 26)).alloc (.cells #[.int .i64 0, .int .i64 0, .int .i64 0, .int .i64 0, .int .i64 0, .int .i64 0, .int .i64 0, .int .i64 0, .int .i64 0, .int .i64 0, .int .i64 0, .int .i64 0, .int .i64 0] 48) = wA := hA.symm
  rw [← hA] at HS0
  clear hA
  have HP := hide h
  have HP' := hide h'
  clear h h'
  obtain ⟨i0, i1, i2⟩ := HS0.out.im3 1 rfl
  obtain ⟨Q, hQ⟩ : ∃ Q, Q = MpR D n0 M n1 T w := ⟨_, rfl⟩
  rw [← hQ]
  have HQn : Hid (len93 n0 n1 = false → ∀ w', Below w.heap.size w w' → Q (.returned (.tuple #[.agg #[.int .i64 0, .int .i64 0, .int .i64 0, .int .i64 0, .int .i64 0, .int .i64 0, .int .i64 0, .int .i64 0, .int .i64 0, .int .i64 0, .int .i64 0, .int .i64 0, .int .i64 0], .bool false])) w') := fun e w' hb => by
    rw [hQ]; unfold MpR frI; rw [e]; exact ⟨rfl, hb⟩
  have HQy : Hid (len93 n0 n1 = true → ∀ w', Below w.heap.size w w' → Q (.returned (.tuple #[mapV M T D, .bool (rightB M T D)])) w') := fun e w' hb => by
    rw [hQ]; unfold MpR frI; rw [e]; exact ⟨rfl, hb⟩
  clear hQ
  have z0 := HS0.out.cell 0 rfl 0 rfl
  have e0 := HS0.out.free 0 rfl 0 rfl
  have z1 := HS0.out.cell 0 rfl 1 rfl
  have e1 := HS0.out.free 0 rfl 1 rfl
  have z2 := HS0.out.cell 0 rfl 2 rfl
  have e2 := HS0.out.free 0 rfl 2 rfl
  have z3 := HS0.out.cell 0 rfl 3 rfl
  have e3 := HS0.out.free 0 rfl 3 rfl
  have z4 := HS0.out.cell 0 rfl 4 rfl
  have e4 := HS0.out.free 0 rfl 4 rfl
  have z5 := HS0.out.cell 0 rfl 5 rfl
  have e5 := HS0.out.free 0 rfl 5 rfl
  have z6 := HS0.out.cell 0 rfl 6 rfl
  have e6 := HS0.out.free 0 rfl 6 rfl
  have z7 := HS0.out.cell 0 rfl 7 rfl
  have e7 := HS0.out.free 0 rfl 7 rfl
  have z8 := HS0.out.cell 0 rfl 8 rfl
  have e8 := HS0.out.free 0 rfl 8 rfl
  have z9 := HS0.out.cell 0 rfl 9 rfl
  have e9 := HS0.out.free 0 rfl 9 rfl
  have z10 := HS0.out.cell 0 rfl 10 rfl
  have e10 := HS0.out.free 0 rfl 10 rfl
  have z11 := HS0.out.cell 0 rfl 11 rfl
  have e11 := HS0.out.free 0 rfl 11 rfl
  have z12 := HS0.out.cell 0 rfl 12 rfl
  have e12 := HS0.out.free 0 rfl 12 rfl
  by_cases h9 : n0 = 9
  · by_cases h3 : n1 = 3
    · subst h9
      subst h3
      have HY := hide (HQy.out rfl)
      obtain ⟨b, off, rfl, hbl⟩ := HP.out.lt (by omega)
      obtain ⟨b', off', rfl, hbl'⟩ := HP'.out.lt (by omega)
      have m0 : wA.cell? ⟨b, off, none⟩ = some (.int .i64 (M 0)) := by obtain ⟨_, _, heq, hz⟩ := (HP.out.below HS0.out.below).at (show 0 < 9 by omega); cases heq; exact hz
      have m1 : wA.cell? ⟨b, off + 1, none⟩ = some (.int .i64 (M 1)) := by obtain ⟨_, _, heq, hz⟩ := (HP.out.below HS0.out.below).at (show 1 < 9 by omega); cases heq; exact hz
      have m2 : wA.cell? ⟨b, off + 2, none⟩ = some (.int .i64 (M 2)) := by obtain ⟨_, _, heq, hz⟩ := (HP.out.below HS0.out.below).at (show 2 < 9 by omega); cases heq; exact hz
      have m3 : wA.cell? ⟨b, off + 3, none⟩ = some (.int .i64 (M 3)) := by obtain ⟨_, _, heq, hz⟩ := (HP.out.below HS0.out.below).at (show 3 < 9 by omega); cases heq; exact hz
      have m4 : wA.cell? ⟨b, off + 4, none⟩ = some (.int .i64 (M 4)) := by obtain ⟨_, _, heq, hz⟩ := (HP.out.below HS0.out.below).at (show 4 < 9 by omega); cases heq; exact hz
      have m5 : wA.cell? ⟨b, off + 5, none⟩ = some (.int .i64 (M 5)) := by obtain ⟨_, _, heq, hz⟩ := (HP.out.below HS0.out.below).at (show 5 < 9 by omega); cases heq; exact hz
      have m6 : wA.cell? ⟨b, off + 6, none⟩ = some (.int .i64 (M 6)) := by obtain ⟨_, _, heq, hz⟩ := (HP.out.below HS0.out.below).at (show 6 < 9 by omega); cases heq; exact hz
      have m7 : wA.cell? ⟨b, off + 7, none⟩ = some (.int .i64 (M 7)) := by obtain ⟨_, _, heq, hz⟩ := (HP.out.below HS0.out.below).at (show 7 < 9 by omega); cases heq; exact hz
      have m8 : wA.cell? ⟨b, off + 8, none⟩ = some (.int .i64 (M 8)) := by obtain ⟨_, _, heq, hz⟩ := (HP.out.below HS0.out.below).at (show 8 < 9 by omega); cases heq; exact hz
      have t0 : wA.cell? ⟨b', off', none⟩ = some (.int .i64 (T 0)) := by obtain ⟨_, _, heq, hz⟩ := (HP'.out.below HS0.out.below).at (show 0 < 3 by omega); cases heq; exact hz
      have t1 : wA.cell? ⟨b', off' + 1, none⟩ = some (.int .i64 (T 1)) := by obtain ⟨_, _, heq, hz⟩ := (HP'.out.below HS0.out.below).at (show 1 < 3 by omega); cases heq; exact hz
      have t2 : wA.cell? ⟨b', off' + 2, none⟩ = some (.int .i64 (T 2)) := by obtain ⟨_, _, heq, hz⟩ := (HP'.out.below HS0.out.below).at (show 2 < 3 by omega); cases heq; exact hz
      have q1 : b < wA.heap.size := Nat.lt_of_lt_of_le hbl HS0.out.below.size
      have q2 : b' < wA.heap.size := Nat.lt_of_lt_of_le hbl' HS0.out.below.size
      have q3 : w.heap.size < wA.heap.size := (HS0.out.ltB 1 rfl).2
      have cR := isRight_any M T D
      unfold mapV at cR HY
      have hr : ∀ (x : Bool), x = rightB M T D → x = rightB M T D := fun _ h => h
      clear hr HQn HQy HP HP' e0 z0 e1 z1 e2 z2 e3 z3 e4 z4 e5 z5 e6 z6 e7 z7 e8 z8 e9 z9 e10 z10 e11 z11 e12 z12
      generalize rightB M T D = rb at *
      have y9 : ∀ w, (Instr.arrayAt 44 (.slice (some ⟨b, off, none⟩) 9 c0)).run Try.prog w = .ok (.pointer (some ⟨b, off, none⟩)) w := fun _ => rfl
      have y3 : ∀ w, (Instr.arrayAt 46 (.slice (some ⟨b', off', none⟩) 3 c1)).run Try.prog w = .ok (.pointer (some ⟨b', off', none⟩)) w := fun _ => rfl
      go_enter Try.func20, Try.ntmps20
      go_upto_region 3 with fail
      clear hA'
      go_region
      all_goals
        have HS1 := hide (HS0.out.box [.int .i64 (M 0), .int .i64 (M 1), .int .i64 (M 2), .int .i64 (M 3), .int .i64 (M 4), .int .i64 (M 5), .int .i64 (M 6), .int .i64 (M 7), .int .i64 (M 8), .int .i64 (T 0), .int .i64 (T 1), .int .i64 (T 2), .int .i64 D] 48).drew
        clear q1 q2 q3 y9 y3 i0 i1 i2 HS0 m0 m1 m2 m3 m4 m5 m6 m7 m8 t0 t1 t2
        generalize hX : wA.heap.size = X at *
        clear hX
        generalize hW : (wA.alloc (.cells #[.int .i64 (M 0), .int .i64 (M 1), .int .i64 (M 2), .int .i64 (M 3), .int .i64 (M 4), .int .i64 (M 5), .int .i64 (M 6), .int .i64 (M 7), .int .i64 (M 8), .int .i64 (T 0), .int .i64 (T 1), .int .i64 (T 2), .int .i64 D] 48)).drew = wX at *
        clear hW
        have HX0 : Hid (wX.drew.rangeAt X 0 [.int .i64 (M 0), .int .i64 (M 1), .int .i64 (M 2), .int .i64 (M 3), .int .i64 (M 4), .int .i64 (M 5), .int .i64 (M 6), .int .i64 (M 7), .int .i64 (M 8), .int .i64 (T 0), .int .i64 (T 1), .int .i64 (T 2), .int .i64 D]) := fun j v hv => HS1.out.range 0 rfl j v hv
        have HXr : Hid (∀ w3, Below wX.drew.heap.size wX.drew w3 → w3.rangeAt X 0 [.int .i64 (M 0), .int .i64 (M 1), .int .i64 (M 2), .int .i64 (M 3), .int .i64 (M 4), .int .i64 (M 5), .int .i64 (M 6), .int .i64 (M 7), .int .i64 (M 8), .int .i64 (T 0), .int .i64 (T 1), .int .i64 (T 2), .int .i64 D]) := fun w3 h3 j v hv => (HS1.out.drew.next h3).range 0 rfl j v hv
        have HXt : Hid (∀ w3, Below wX.drew.heap.size wX.drew w3 → w3.there (w.heap.size + 1) 0 13) := fun w3 h3 => (HS1.out.drew.next h3).thereB 1 rfl
        have HXs : Hid (∀ w3, Below wX.drew.heap.size wX.drew w3 → (w3.setCells (w.heap.size + 1) 0 [.int .i64 (M 0), .int .i64 (M 1), .int .i64 (M 2), .int .i64 (M 3), .int .i64 (M 4), .int .i64 (M 5), .int .i64 (M 6), .int .i64 (M 7), .int .i64 (M 8), .int .i64 (T 0), .int .i64 (T 1), .int .i64 (T 2), .int .i64 D]).rangeAt X 0 [.int .i64 (M 0), .int .i64 (M 1), .int .i64 (M 2), .int .i64 (M 3), .int .i64 (M 4), .int .i64 (M 5), .int .i64 (M 6), .int .i64 (M 7), .int .i64 (M 8), .int .i64 (T 0), .int .i64 (T 1), .int .i64 (T 2), .int .i64 D]) := fun w3 h3 => World.rangeAt_setCells_apart (HXr.out w3 h3) _ _ _ (.inl (HS1.out.neB2 0 1 rfl rfl (by omega)))
        have HXb : Hid (∀ w3, Below wX.drew.heap.size wX.drew w3 → Below w.heap.size w (w3.setCells (w.heap.size + 1) 0 [.int .i64 (M 0), .int .i64 (M 1), .int .i64 (M 2), .int .i64 (M 3), .int .i64 (M 4), .int .i64 (M 5), .int .i64 (M 6), .int .i64 (M 7), .int .i64 (M 8), .int .i64 (T 0), .int .i64 (T 1), .int .i64 (T 2), .int .i64 D])) := fun w3 h3 => ((((((((((((((HS1.out.drew.next h3).below.setCell (p := ⟨w.heap.size + 1, 0, none⟩) (Nat.le_succ _) (.int .i64 (M 0))).setCell (p := ⟨w.heap.size + 1, 1, none⟩) (Nat.le_succ _) (.int .i64 (M 1))).setCell (p := ⟨w.heap.size + 1, 2, none⟩) (Nat.le_succ _) (.int .i64 (M 2))).setCell (p := ⟨w.heap.size + 1, 3, none⟩) (Nat.le_succ _) (.int .i64 (M 3))).setCell (p := ⟨w.heap.size + 1, 4, none⟩) (Nat.le_succ _) (.int .i64 (M 4))).setCell (p := ⟨w.heap.size + 1, 5, none⟩) (Nat.le_succ _) (.int .i64 (M 5))).setCell (p := ⟨w.heap.size + 1, 6, none⟩) (Nat.le_succ _) (.int .i64 (M 6))).setCell (p := ⟨w.heap.size + 1, 7, none⟩) (Nat.le_succ _) (.int .i64 (M 7))).setCell (p := ⟨w.heap.size + 1, 8, none⟩) (Nat.le_succ _) (.int .i64 (M 8))).setCell (p := ⟨w.heap.size + 1, 9, none⟩) (Nat.le_succ _) (.int .i64 (T 0))).setCell (p := ⟨w.heap.size + 1, 10, none⟩) (Nat.le_succ _) (.int .i64 (T 1))).setCell (p := ⟨w.heap.size + 1, 11, none⟩) (Nat.le_succ _) (.int .i64 (T 2))).setCell (p := ⟨w.heap.size + 1, 12, none⟩) (Nat.le_succ _) (.int .i64 D))
        have hi : (Try.prog.info? 48).map (·.size) = some ([.int .i64 (M 0), .int .i64 (M 1), .int .i64 (M 2), .int .i64 (M 3), .int .i64 (M 4), .int .i64 (M 5), .int .i64 (M 6), .int .i64 (M 7), .int .i64 (M 8), .int .i64 (T 0), .int .i64 (T 1), .int .i64 (T 2), .int .i64 D] : List Value).length := by kernel_rfl
        have hi2 : (Try.prog.info? 48).map (·.size) = some (#[.int .i64 (M 0), .int .i64 (M 1), .int .i64 (M 2), .int .i64 (M 3), .int .i64 (M 4), .int .i64 (M 5), .int .i64 (M 6), .int .i64 (M 7), .int .i64 (M 8), .int .i64 (T 0), .int .i64 (T 1), .int .i64 (T 2), .int .i64 D] : Array Value).size := by kernel_rfl
        have h1 : (#[.int .i64 (M 0), .int .i64 (M 1), .int .i64 (M 2), .int .i64 (M 3), .int .i64 (M 4), .int .i64 (M 5), .int .i64 (M 6), .int .i64 (M 7), .int .i64 (M 8), .int .i64 (T 0), .int .i64 (T 1), .int .i64 (T 2), .int .i64 D] : Array Value).all (·.oneCell') = true := by simp [Value.oneCell']
        have hu := Try.underlying48
        clear HS1
        go_upto_region 4 with fail
        refine wp_region_noPanic ?_
        refine wp_region_held_drew (S := fun w' => w'.rangeAt X 0 [.int .i64 (M 0), .int .i64 (M 1), .int .i64 (M 2), .int .i64 (M 3), .int .i64 (M 4), .int .i64 (M 5), .int .i64 (M 6), .int .i64 (M 7), .int .i64 (M 8), .int .i64 (T 0), .int .i64 (T 1), .int .i64 (T 2), .int .i64 D]) (by kernel_rfl) HX0.out (fun hHeld => ?_)
        refine wpAnyH_take (i := 0) (oi := _) (v := _) rfl (by kernel_rfl) (by kernel_rfl) (by kernel_rfl) (fun _ _ _ h => h) (yieldsIf_load_mid (by rfl) _ _ rfl X 0 rfl [.int .i64 (M 0), .int .i64 (M 1), .int .i64 (M 2), .int .i64 (M 3), .int .i64 (M 4), .int .i64 (M 5), .int .i64 (M 6), .int .i64 (M 7), .int .i64 (M 8), .int .i64 (T 0), .int .i64 (T 1), .int .i64 (T 2), .int .i64 D] _ (fun _ h => h) hu rfl hi) hHeld ?_
        (try simp only [Act.put, List.setIfInBounds_toArray, List.set_cons_zero, List.set_cons_succ])
        refine wpAnyH_take (i := 1) (oi := _) (v := _) rfl (by kernel_rfl) (by kernel_rfl) (by kernel_rfl) (fun _ _ _ h => h) (yieldsIf_load_mid (by rfl) _ _ rfl X 0 rfl [.int .i64 (M 0), .int .i64 (M 1), .int .i64 (M 2), .int .i64 (M 3), .int .i64 (M 4), .int .i64 (M 5), .int .i64 (M 6), .int .i64 (M 7), .int .i64 (M 8), .int .i64 (T 0), .int .i64 (T 1), .int .i64 (T 2), .int .i64 D] _ (fun _ h => h) hu rfl hi) hHeld ?_
        (try simp only [Act.put, List.setIfInBounds_toArray, List.set_cons_zero, List.set_cons_succ])
        clear hHeld hi hu
        refine wpAnyH_ready (rs := [2]) (by kernel_rfl) (by simp) ?_
        refine AllReadyH.cons (o := _) rfl (fun K hK => ?_) AllReadyH.nil
        go_simp
        refine (cR _).mono ?_
        rintro e w3 ⟨rfl, hb3⟩
        dsimp only
        refine hK.out _ _ (HXr.out _ hb3) (fun _ => ?_)
        clear hK K cR
        (try simp only [Act.put, List.setIfInBounds_toArray, List.set_cons_zero, List.set_cons_succ])
        refine wpAnyH_ready (rs := [3]) (by kernel_rfl) (by simp) ?_
        refine AllReadyH.cons (o := _) rfl (fun K hK => ?_) AllReadyH.nil
        rw [if_pos (by rfl)]
        refine wp_store_mid _ _ _ rfl (w.heap.size + 1) 0 #[.int .i64 (M 0), .int .i64 (M 1), .int .i64 (M 2), .int .i64 (M 3), .int .i64 (M 4), .int .i64 (M 5), .int .i64 (M 6), .int .i64 (M 7), .int .i64 (M 8), .int .i64 (T 0), .int .i64 (T 1), .int .i64 (T 2), .int .i64 D] rfl rfl (HXt.out _ hb3) hi2 h1 ?_
        refine hK.out _ _ (HXs.out _ hb3) (fun _ => ?_)
        clear hK K hi2 h1
        (try simp only [Act.put, List.setIfInBounds_toArray, List.set_cons_zero, List.set_cons_succ])
        refine wpAnyH_ready (rs := [4]) (by kernel_rfl) (by simp) ?_
        refine AllReadyH.cons (o := _) rfl (fun K hK => ?_) AllReadyH.nil
        go_simp
        refine hK.out _ _ (HXs.out _ hb3) (fun _ => ?_)
        clear hK K
        (try simp only [Act.put, List.setIfInBounds_toArray, List.set_cons_zero, List.set_cons_succ])
        refine wpAnyH_done (by kernel_rfl) ?_ _
        have hsame := World.rangeAt_setCells_same w3 (w.heap.size + 1) 0 [.int .i64 (M 0), .int .i64 (M 1), .int .i64 (M 2), .int .i64 (M 3), .int .i64 (M 4), .int .i64 (M 5), .int .i64 (M 6), .int .i64 (M 7), .int .i64 (M 8), .int .i64 (T 0), .int .i64 (T 1), .int .i64 (T 2), .int .i64 D] (HXt.out _ hb3)
        have HF := hide (HY.out _ (HXb.out _ hb3))
        generalize w3.setCells (w.heap.size + 1) 0 [.int .i64 (M 0), .int .i64 (M 1), .int .i64 (M 2), .int .i64 (M 3), .int .i64 (M 4), .int .i64 (M 5), .int .i64 (M 6), .int .i64 (M 7), .int .i64 (M 8), .int .i64 (T 0), .int .i64 (T 1), .int .i64 (T 2), .int .i64 D] = wF at *
        have y0 : wF.cell? ⟨w.heap.size + 1, 0, none⟩ = some (.int .i64 (M 0)) := by have := hsame 0 _ rfl; rw [Nat.zero_add] at this; exact this
        have y1 : wF.cell? ⟨w.heap.size + 1, 1, none⟩ = some (.int .i64 (M 1)) := by have := hsame 1 _ rfl; rw [Nat.zero_add] at this; exact this
        have y2 : wF.cell? ⟨w.heap.size + 1, 2, none⟩ = some (.int .i64 (M 2)) := by have := hsame 2 _ rfl; rw [Nat.zero_add] at this; exact this
        have y3 : wF.cell? ⟨w.heap.size + 1, 3, none⟩ = some (.int .i64 (M 3)) := by have := hsame 3 _ rfl; rw [Nat.zero_add] at this; exact this
        have y4 : wF.cell? ⟨w.heap.size + 1, 4, none⟩ = some (.int .i64 (M 4)) := by have := hsame 4 _ rfl; rw [Nat.zero_add] at this; exact this
        have y5 : wF.cell? ⟨w.heap.size + 1, 5, none⟩ = some (.int .i64 (M 5)) := by have := hsame 5 _ rfl; rw [Nat.zero_add] at this; exact this
        have y6 : wF.cell? ⟨w.heap.size + 1, 6, none⟩ = some (.int .i64 (M 6)) := by have := hsame 6 _ rfl; rw [Nat.zero_add] at this; exact this
        have y7 : wF.cell? ⟨w.heap.size + 1, 7, none⟩ = some (.int .i64 (M 7)) := by have := hsame 7 _ rfl; rw [Nat.zero_add] at this; exact this
        have y8 : wF.cell? ⟨w.heap.size + 1, 8, none⟩ = some (.int .i64 (M 8)) := by have := hsame 8 _ rfl; rw [Nat.zero_add] at this; exact this
        have y9 : wF.cell? ⟨w.heap.size + 1, 9, none⟩ = some (.int .i64 (T 0)) := by have := hsame 9 _ rfl; rw [Nat.zero_add] at this; exact this
        have y10 : wF.cell? ⟨w.heap.size + 1, 10, none⟩ = some (.int .i64 (T 1)) := by have := hsame 10 _ rfl; rw [Nat.zero_add] at this; exact this
        have y11 : wF.cell? ⟨w.heap.size + 1, 11, none⟩ = some (.int .i64 (T 2)) := by have := hsame 11 _ rfl; rw [Nat.zero_add] at this; exact this
        have y12 : wF.cell? ⟨w.heap.size + 1, 12, none⟩ = some (.int .i64 D) := by have := hsame 12 _ rfl; rw [Nat.zero_add] at this; exact this
        clear hsame HY HXr HXt HXs HXb HX0 hb3
        unfold NoPanic
        dsimp only
        go_wp2_with fail
        exact bodyPost_ret (v := .tuple #[.agg #[.int .i64 (M 0), .int .i64 (M 1), .int .i64 (M 2), .int .i64 (M 3), .int .i64 (M 4), .int .i64 (M 5), .int .i64 (M 6), .int .i64 (M 7), .int .i64 (M 8), .int .i64 (T 0), .int .i64 (T 1), .int .i64 (T 2), .int .i64 D], .bool rb]) (by simp [results, Try.results20, go_sem, y0, y1, y2, y3, y4, y5, y6, y7, y8, y9, y10, y11, y12]) rfl HF.out
    · have HF : Hid (Q (.returned (.tuple #[.agg #[.int .i64 0, .int .i64 0, .int .i64 0, .int .i64 0, .int .i64 0, .int .i64 0, .int .i64 0, .int .i64 0, .int .i64 0, .int .i64 0, .int .i64 0, .int .i64 0, .int .i64 0], .bool false])) (((((((((((((wA.setCell ⟨w.heap.size + 1, 0, none⟩ (.int .i64 0)).setCell ⟨w.heap.size + 1, 1, none⟩ (.int .i64 0)).setCell ⟨w.heap.size + 1, 2, none⟩ (.int .i64 0)).setCell ⟨w.heap.size + 1, 3, none⟩ (.int .i64 0)).setCell ⟨w.heap.size + 1, 4, none⟩ (.int .i64 0)).setCell ⟨w.heap.size + 1, 5, none⟩ (.int .i64 0)).setCell ⟨w.heap.size + 1, 6, none⟩ (.int .i64 0)).setCell ⟨w.heap.size + 1, 7, none⟩ (.int .i64 0)).setCell ⟨w.heap.size + 1, 8, none⟩ (.int .i64 0)).setCell ⟨w.heap.size + 1, 9, none⟩ (.int .i64 0)).setCell ⟨w.heap.size + 1, 10, none⟩ (.int .i64 0)).setCell ⟨w.heap.size + 1, 11, none⟩ (.int .i64 0)).setCell ⟨w.heap.size + 1, 12, none⟩ (.int .i64 0))) := HQn.out (by unfold len93; simp [h3]) _ (((((((((((((HS0.out.below.setCell (p := ⟨w.heap.size + 1, 0, none⟩) (Nat.le_succ _) (.int .i64 0)).setCell (p := ⟨w.heap.size + 1, 1, none⟩) (Nat.le_succ _) (.int .i64 0)).setCell (p := ⟨w.heap.size + 1, 2, none⟩) (Nat.le_succ _) (.int .i64 0)).setCell (p := ⟨w.heap.size + 1, 3, none⟩) (Nat.le_succ _) (.int .i64 0)).setCell (p := ⟨w.heap.size + 1, 4, none⟩) (Nat.le_succ _) (.int .i64 0)).setCell (p := ⟨w.heap.size + 1, 5, none⟩) (Nat.le_succ _) (.int .i64 0)).setCell (p := ⟨w.heap.size + 1, 6, none⟩) (Nat.le_succ _) (.int .i64 0)).setCell (p := ⟨w.heap.size + 1, 7, none⟩) (Nat.le_succ _) (.int .i64 0)).setCell (p := ⟨w.heap.size + 1, 8, none⟩) (Nat.le_succ _) (.int .i64 0)).setCell (p := ⟨w.heap.size + 1, 9, none⟩) (Nat.le_succ _) (.int .i64 0)).setCell (p := ⟨w.heap.size + 1, 10, none⟩) (Nat.le_succ _) (.int .i64 0)).setCell (p := ⟨w.heap.size + 1, 11, none⟩) (Nat.le_succ _) (.int .i64 0)).setCell (p := ⟨w.heap.size + 1, 12, none⟩) (Nat.le_succ _) (.int .i64 0))
      have q3 : ((n1 : Int) != 3) = true := by simp; omega
      subst h9
      clear HQn HQy HP HP' HS0 h3
      go_enter Try.func20, Try.ntmps20
      go_wp2_with fail
      exact bodyPost_ret (v := .tuple #[.agg #[.int .i64 0, .int .i64 0, .int .i64 0, .int .i64 0, .int .i64 0, .int .i64 0, .int .i64 0, .int .i64 0, .int .i64 0, .int .i64 0, .int .i64 0, .int .i64 0, .int .i64 0], .bool false]) (by simp [results, Try.results20, go_sem, z0, z1, z2, z3, z4, z5, z6, z7, z8, z9, z10, z11, z12]) rfl HF.out
  · have HF : Hid (Q (.returned (.tuple #[.agg #[.int .i64 0, .int .i64 0, .int .i64 0, .int .i64 0, .int .i64 0, .int .i64 0, .int .i64 0, .int .i64 0, .int .i64 0, .int .i64 0, .int .i64 0, .int .i64 0, .int .i64 0], .bool false])) (((((((((((((wA.setCell ⟨w.heap.size + 1, 0, none⟩ (.int .i64 0)).setCell ⟨w.heap.size + 1, 1, none⟩ (.int .i64 0)).setCell ⟨w.heap.size + 1, 2, none⟩ (.int .i64 0)).setCell ⟨w.heap.size + 1, 3, none⟩ (.int .i64 0)).setCell ⟨w.heap.size + 1, 4, none⟩ (.int .i64 0)).setCell ⟨w.heap.size + 1, 5, none⟩ (.int .i64 0)).setCell ⟨w.heap.size + 1, 6, none⟩ (.int .i64 0)).setCell ⟨w.heap.size + 1, 7, none⟩ (.int .i64 0)).setCell ⟨w.heap.size + 1, 8, none⟩ (.int .i64 0)).setCell ⟨w.heap.size + 1, 9, none⟩ (.int .i64 0)).setCell ⟨w.heap.size + 1, 10, none⟩ (.int .i64 0)).setCell ⟨w.heap.size + 1, 11, none⟩ (.int .i64 0)).setCell ⟨w.heap.size + 1, 12, none⟩ (.int .i64 0))) := HQn.out (by unfold len93; simp [h9]) _ (((((((((((((HS0.out.below.setCell (p := ⟨w.heap.size + 1, 0, none⟩) (Nat.le_succ _) (.int .i64 0)).setCell (p := ⟨w.heap.size + 1, 1, none⟩) (Nat.le_succ _) (.int .i64 0)).setCell (p := ⟨w.heap.size + 1, 2, none⟩) (Nat.le_succ _) (.int .i64 0)).setCell (p := ⟨w.heap.size + 1, 3, none⟩) (Nat.le_succ _) (.int .i64 0)).setCell (p := ⟨w.heap.size + 1, 4, none⟩) (Nat.le_succ _) (.int .i64 0)).setCell (p := ⟨w.heap.size + 1, 5, none⟩) (Nat.le_succ _) (.int .i64 0)).setCell (p := ⟨w.heap.size + 1, 6, none⟩) (Nat.le_succ _) (.int .i64 0)).setCell (p := ⟨w.heap.size + 1, 7, none⟩) (Nat.le_succ _) (.int .i64 0)).setCell (p := ⟨w.heap.size + 1, 8, none⟩) (Nat.le_succ _) (.int .i64 0)).setCell (p := ⟨w.heap.size + 1, 9, none⟩) (Nat.le_succ _) (.int .i64 0)).setCell (p := ⟨w.heap.size + 1, 10, none⟩) (Nat.le_succ _) (.int .i64 0)).setCell (p := ⟨w.heap.size + 1, 11, none⟩) (Nat.le_succ _) (.int .i64 0)).setCell (p := ⟨w.heap.size + 1, 12, none⟩) (Nat.le_succ _) (.int .i64 0))
    have q9 : ((n0 : Int) != 9) = true := by simp; omega
    clear HQn HQy HP HP' HS0 h9
    go_enter Try.func20, Try.ntmps20
    go_wp2_with fail
    exact bodyPost_ret (v := .tuple #[.agg #[.int .i64 0, .int .i64 0, .int .i64 0, .int .i64 0, .int .i64 0, .int .i64 0, .int .i64 0, .int .i64 0, .int .i64 0, .int .i64 0, .int .i64 0, .int .i64 0, .int .i64 0], .bool false]) (by simp [results, Try.results20, go_sem, z0, z1, z2, z3, z4, z5, z6, z7, z8, z9, z10, z11, z12]) rfl HF.out

end Go.Proofs.Ytjdbiaoheoialaa
