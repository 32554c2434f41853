/- Is an offer as told; the form that is agreed: numbers, and the program's functions. -/
import Derived.Test.YtgemdhhofflhgaaClo
import Derived.Test.YtgemdhhofflhgaaOfs
import Derived.Test.YtgemdhhofflhgaaHas
import Derived.Test.YtgemdhhofflhgaaKps
namespace Go.Proofs.Ytgemdhhofflhgaa
open Go.RowKit

/-- is an offer as told -/
def ofB (id : Int) (l : Nat) (f : Nat → Int) : Bool := inB id 1 255 && decide (l ≤ 4) && alW f 0 3 l && unlB (fl f l)
/-- the first of the forms from place k on that is known -/
def fstF (f : Nat → Int) (g : Nat → Int) (n : Nat) : Nat → Nat → Int
  | _, 0 => -1
  | k, r + 1 => if hasN g (f k) n = true then f k else fstF f g n (k + 1) r
/-- what is agreed on offer number i -/
def agF (Iv : Nat → Int) (ln : Nat → Nat) (F : Nat → Nat → Int) (g : Nat → Int) (n : Nat) (i : Nat) : Int :=
  if ofB (Iv i) (ln i) (F i) = true ∧ hasN Iv (Iv i) i = false then fstF (F i) g n 0 (ln i) else -1

set_option maxRecDepth 100000 in
set_option maxHeartbeats 2000000 in
theorem isOffer_any (x : Option Addr) (l c : Nat) (f : Nat → Int) (id : Int) (hl : l ≤ 1048576) (w : World) (h : Px x l f w) :
    Calls Try.prog 18 #[vOf x l c id] w fun e w' => e = .returned (.bool (ofB id l f)) ∧ Below w.heap.size w w' := by
  have HB0 : Hid (Below w.heap.size w (w.alloc (.cells #[.int .i64 id, .slice x l c] 30))) := bnew _ _
  have c1 := fun w' => within_any id 1 255 w'
  have HP := hide (h.below HB0.out)
  have c2 := allWithin_any 0 3 x l c f hl _ HP.out
  have c3 := areUnlike_any x l c f hl _ HP.out
  have z0 : (w.alloc (.cells #[.int .i64 id, .slice x l c] 30)).cell? ⟨w.heap.size, 0, none⟩ = some (.int .i64 id) := by simp [go_sem]
  have z1 : (w.alloc (.cells #[.int .i64 id, .slice x l c] 30)).cell? ⟨w.heap.size, 1, none⟩ = some (.slice x l c) := by simp [go_sem]
  have HV : Hid (ofB id l f = (inB id 1 255 && decide (l ≤ 4) && alW f 0 3 l && unlB (fl f l))) := rfl
  clear h
  generalize ofB id l f = V at *
  generalize inB id 1 255 = V1 at *
  generalize alW f 0 3 l = V3 at *
  generalize unlB (fl f l) = V4 at *
  generalize hwa : w.alloc (.cells #[.int .i64 id, .slice x l c] 30) = wa at *
  have hl5 : decide ((l : Int) ≤ 4) = decide (l ≤ 4) := by rw [Bool.eq_iff_iff]; simp; omega
  cases V1 with
  | false =>
    clear c2 c3 HP
    go_enter Try.func18, Try.ntmps18
    go_wp2_with fail
    refine (c1 _).mono ?_
    rintro e w1 ⟨rfl, rfl⟩
    clear hwa
    go_wp2_with fail
    go_ret
    exact ⟨by rw [HV.out]; rfl, HB0.out⟩
  | true =>
  by_cases hl4 : l ≤ 4
  · have hl6 : (l : Int) ≤ 4 := by omega
    rw [decide_eq_true hl4] at HV
    cases V3 with
    | false =>
      clear c3 HP
      go_enter Try.func18, Try.ntmps18
      go_wp2_with fail
      refine (c1 _).mono ?_
      rintro e w1 ⟨rfl, rfl⟩
      clear hwa
      go_wp2_with fail
      refine c2.mono ?_
      rintro e w1 ⟨rfl, rfl⟩
      go_wp2_with fail
      go_ret
      exact ⟨by rw [HV.out]; rfl, HB0.out⟩
    | true =>
      clear HP
      go_enter Try.func18, Try.ntmps18
      go_wp2_with fail
      refine (c1 _).mono ?_
      rintro e w1 ⟨rfl, rfl⟩
      clear hwa
      go_wp2_with fail
      refine c2.mono ?_
      rintro e w1 ⟨rfl, rfl⟩
      go_wp2_with fail
      refine c3.mono ?_
      rintro e w2 ⟨rfl, hb2⟩
      have HB2 := hide (bnext HB0.out (Nat.le_refl _) hb2)
      clear c3 hb2
      go_wp2_with fail
      go_ret
      exact ⟨by rw [HV.out]; simp, HB2.out⟩
  · have hl6 : ¬ (l : Int) ≤ 4 := by omega
    rw [decide_eq_false hl4] at HV
    clear c2 c3 HP
    go_enter Try.func18, Try.ntmps18
    go_wp2_with fail
    refine (c1 _).mono ?_
    rintro e w1 ⟨rfl, rfl⟩
    clear hwa
    go_wp2_with fail
    go_ret
    exact ⟨by rw [HV.out]; rfl, HB0.out⟩

set_option maxRecDepth 100000 in
theorem hasId_fn (ar : Array Value) (w : World) : Sem.run Try.prog (callFunc 17 ar) w = .ok (.enter 17 ar) w := rfl

set_option maxRecDepth 100000 in
set_option maxHeartbeats 1000000 in
/-- does another offer have its Id -/
theorem hasId_any (p : Nat) (x : Option Addr) (l c : Nat) (id id' : Int) (w : World) (h : w.cell? ⟨p, 0, none⟩ = some (.int .i64 id)) :
    Calls Try.prog 17 #[vOf x l c id', .pointer (some ⟨p, 0, none⟩)] w fun e w' => e = .returned (.bool (decide (id' = id))) ∧ Below w.heap.size w w' := by
  have HB0 : Hid (Below w.heap.size w (w.alloc (.cells #[.int .i64 id', .slice x l c] 30))) := bnew _ _
  have z := cell_kept HB0.out h
  have e1 : (id' == id) = decide (id' = id) := by rw [Bool.eq_iff_iff]; simp
  clear h
  go_enter Try.func17, Try.ntmps17
  go_wp2_with fail
  go_ret
  exact ⟨by rw [← e1]; rfl, HB0.out⟩

set_option maxRecDepth 100000 in
set_option maxHeartbeats 2000000 in
theorem indexO_any (K : Nat) (hK : ∀ ar w, Sem.run Try.prog (callFunc K ar) w = .ok (.enter K ar) w) (cpv : Array Value) (id : Int) (a : Option Addr) (m cap : Nat) (ad : Nat → Option Addr) (ln cp : Nat → Nat) (F : Nat → Nat → Int) (Bv : Nat → Int) (hm : m ≤ 1048576) (w : World) (h : PxB a m ad ln cp F Bv w)
    (hc : ∀ k wr, k < m → Below w.heap.size w wr → Calls Try.prog K (#[vOf (ad k) (ln k) (cp k) (Bv k)] ++ cpv) wr fun e w' => e = .returned (.bool (decide (Bv k = id))) ∧ Below wr.heap.size wr w') :
    Calls Try.prog 24 #[.slice a m cap, .func (.func K) #[] cpv] w fun e w' => (∃ r : Int, e = .returned (.int .i64 r) ∧ decide (0 ≤ r) = hasN Bv id m) ∧ Below w.heap.size w w' := by
  have HP := hide h
  have HC := hide hc
  clear h hc
  go_enter Try.func24, Try.ntmps24
  go_wp2_with fail
  go_loopw [5, 8] (fun _ i wr => ∃ k : Nat, k ≤ m ∧ i = .int .i64 k ∧ Hid (hasN Bv id k = false) ∧ Below w.heap.size w wr) (fun _ i _ => m - (intOf i).toNat)
  case atStart => exact ⟨0, by omega, rfl, hide rfl, Below.refl _ _⟩
  case round =>
    obtain ⟨k, hk, rfl, HD, hb⟩ := hrel
    have HB := hide hb
    by_cases hlt : k < m
    · have hlt' : (k : Int) < m := by omega
      obtain ⟨b, off, rfl, z0, z1⟩ := (HP.out.below hb).at hlt
      have c := HC.out k wr hlt hb
      by_cases hx : Bv k = id
      · have HY : Hid (hasN Bv id m = true) := hasN_yes hx hlt
        rw [decide_eq_true hx] at c
        clear hx HD HP HC hb
        go_wp2_with fail
        refine c.mono ?_
        rintro e w1 ⟨rfl, hb1⟩
        have HB1 := hide (bnext HB.out (Nat.le_refl _) hb1)
        clear c hb1 HB
        go_wp2_with fail
        go_ret
        exact ⟨⟨(k : Int), rfl, by rw [HY.out]; simp⟩, HB1.out⟩
      · have HN : Hid (hasN Bv id (k + 1) = false) := by show _ = _; unfold hasN; rw [HD.out]; simpa using hx
        rw [decide_eq_false hx] at c
        clear hx HD HP HC hb
        go_wp2_with fail
        refine c.mono ?_
        rintro e w1 ⟨rfl, hb1⟩
        have HB1 := hide (bnext HB.out (Nat.le_refl _) hb1)
        clear c hb1 HB
        go_wp2_with fail
        go_roundw
        case rel => exact ⟨k + 1, by omega, by go_num, HN, HB1.out⟩
        case measure => simp [intOf]; omega
    · obtain rfl : k = m := by omega
      clear HP HC hb
      go_wp2_with fail
      go_ret
      exact ⟨⟨-1, rfl, by rw [HD.out]; rfl⟩, HB.out⟩

set_option maxRecDepth 100000 in
set_option maxHeartbeats 1000000 in
theorem containsO_any (K : Nat) (hK : ∀ ar w, Sem.run Try.prog (callFunc K ar) w = .ok (.enter K ar) w) (cpv : Array Value) (id : Int) (a : Option Addr) (m cap : Nat) (ad : Nat → Option Addr) (ln cp : Nat → Nat) (F : Nat → Nat → Int) (Bv : Nat → Int) (hm : m ≤ 1048576) (w : World) (h : PxB a m ad ln cp F Bv w)
    (hc : ∀ k wr, k < m → Below w.heap.size w wr → Calls Try.prog K (#[vOf (ad k) (ln k) (cp k) (Bv k)] ++ cpv) wr fun e w' => e = .returned (.bool (decide (Bv k = id))) ∧ Below wr.heap.size wr w') :
    Calls Try.prog 19 #[.slice a m cap, .func (.func K) #[] cpv] w fun e w' => e = .returned (.bool (hasN Bv id m)) ∧ Below w.heap.size w w' := by
  have c := indexO_any K hK cpv id a m cap ad ln cp F Bv hm w h hc
  clear h hc
  go_enter Try.func19, Try.ntmps19
  go_wp2_with fail
  refine c.mono ?_
  rintro e w1 ⟨⟨r, rfl, hr⟩, hb⟩
  have HR := hide hr
  have HB := hide hb
  clear hr c hb
  go_wp2_with fail
  go_ret
  exact ⟨by rw [← HR.out]; simp, HB.out⟩

set_option maxRecDepth 100000 in
set_option maxHeartbeats 4000000 in
theorem agreedForm_any (id : Int) (x : Option Addr) (l c : Nat) (f : Nat → Int) (hl : l ≤ 1048576) (a : Option Addr) (m cap : Nat) (ad : Nat → Option Addr) (ln cp : Nat → Nat) (F : Nat → Nat → Int) (Bv : Nat → Int) (hm : m ≤ 1048576) (a' : Option Addr) (n cap' : Nat) (g : Nat → Int) (hn : n ≤ 1048576) (w : World) (hx : Px x l f w) (h : PxB a m ad ln cp F Bv w) (h' : Px a' n g w) :
    Calls Try.prog 14 #[vOf x l c id, .slice a m cap, .slice a' n cap'] w fun e w' => e = .returned (.int .i64 (if ofB id l f = true ∧ hasN Bv id m = false then fstF f g n 0 l else -1)) ∧ Below w.heap.size w w' := by
  have HB0 : Hid (Below w.heap.size w (w.alloc (.cells #[.int .i64 id, .slice x l c] 30))) := bnew _ _
  have HZ0 : Hid ((w.alloc (.cells #[.int .i64 id, .slice x l c] 30)).cell? ⟨w.heap.size, 0, none⟩ = some (.int .i64 id)) := by show _ = _; simp [go_sem]
  have HZ1 : Hid ((w.alloc (.cells #[.int .i64 id, .slice x l c] 30)).cell? ⟨w.heap.size, 1, none⟩ = some (.slice x l c)) := by show _ = _; simp [go_sem]
  have z0 := HZ0.out
  have z1 := HZ1.out
  have HX := hide (hx.below HB0.out)
  have HP := hide (h.below HB0.out)
  have HK := hide (h'.below HB0.out)
  have c1 := isOffer_any x l c f id hl _ HX.out
  clear hx h h'
  generalize hp : w.heap.size = p at *
  generalize hwa : w.alloc (.cells #[.int .i64 id, .slice x l c] 30) = wa at *
  have HC2 : Hid (∀ w1, Below wa.heap.size wa w1 → Calls Try.prog 19 #[.slice a m cap, .func (.func 17) #[] #[.pointer (some ⟨p, 0, none⟩)]] w1 fun e w' => e = .returned (.bool (hasN Bv id m)) ∧ Below w1.heap.size w1 w') := fun w1 hb1 =>
    containsO_any 17 hasId_fn #[.pointer (some ⟨p, 0, none⟩)] id a m cap ad ln cp F Bv hm w1 (HP.out.below hb1) (fun k wr hk hb => hasId_any p (ad k) (ln k) (cp k) id (Bv k) wr (cell_kept (bnext hb1 (Nat.le_refl _) hb) HZ0.out))
  have HC3 : Hid (∀ (v : Int) w1, Below wa.heap.size wa w1 → Calls Try.prog 20 #[.slice a' n cap', .int .i64 v] w1 fun e w' => e = .returned (.bool (hasN g v n)) ∧ w' = w1) := fun v w1 hb1 => containsN_any a' n cap' g v hn w1 (HK.out.below hb1)
  clear HK HP
  cases hO : ofB id l f with
  | false =>
    rw [hO] at c1
    rw [if_neg (by simp)]
    clear HC2 HC3 HX
    go_enter Try.func14, Try.ntmps14
    go_wp2_with fail
    clear hwa
    refine c1.mono ?_
    rintro e w1 ⟨rfl, hb1⟩
    have HB1 := hide (bnext (hp ▸ HB0.out) (Nat.le_refl _) hb1)
    clear c1 hb1
    go_wp2_with fail
    go_ret
    exact ⟨rfl, by rw [← hp]; exact HB1.out⟩
  | true =>
    rw [hO] at c1
    cases hH : hasN Bv id m with
    | true =>
      rw [if_neg (by simp)]
      rw [hH] at HC2
      clear HC3 HX
      go_enter Try.func14, Try.ntmps14
      go_wp2_with fail
      clear hwa
      refine c1.mono ?_
      rintro e w1 ⟨rfl, hb1⟩
      have c2 := HC2.out w1 hb1
      have HB1 := hide (bnext (hp ▸ HB0.out) (Nat.le_refl _) hb1)
      clear c1 hb1 HC2
      go_wp2_with fail
      refine c2.mono ?_
      rintro e w2 ⟨rfl, hb2⟩
      have HB2 := hide (bnext HB1.out (Nat.le_refl _) hb2)
      clear c2 hb2 HB1
      go_wp2_with fail
      go_ret
      exact ⟨rfl, by rw [← hp]; exact HB2.out⟩
    | false =>
      rw [if_pos ⟨rfl, rfl⟩]
      rw [hH] at HC2
      clear hH hO
      go_enter Try.func14, Try.ntmps14
      go_wp2_with fail
      clear hwa
      refine c1.mono ?_
      rintro e w1 ⟨rfl, hb1⟩
      have c2 := HC2.out w1 hb1
      have HB1 := hide hb1
      clear c1 hb1 HC2
      go_wp2_with fail
      refine c2.mono ?_
      rintro e w2 ⟨rfl, hb2⟩
      have HB2 : Hid (Below wa.heap.size wa w2) := bnext HB1.out (Nat.le_refl _) hb2
      have z3 := cell_kept HB2.out HZ1.out
      clear c2 hb2 HB1 z0 z1 HZ0 HZ1
      go_wp2_with fail
      go_loopw [9, 22] (fun _ i wr => ∃ k r : Nat, k + r = l ∧ i = .int .i64 k ∧ Hid (fstF f g n k r = fstF f g n 0 l) ∧ Below wa.heap.size wa wr) (fun _ i _ => l - (intOf i).toNat)
      case atStart => exact ⟨0, l, by omega, rfl, hide rfl, HB2.out⟩
      case round =>
        obtain ⟨k, r, hk, rfl, HF, hb⟩ := hrel
        have HBR : Hid (Below w.heap.size w wr) := bnext (hp ▸ HB0.out) (Nat.le_refl _) hb
        have HBW := hide hb
        clear HB2 z3
        cases r with
        | zero =>
          have hkl : ¬ (k : Int) < l := by omega
          have HR : Hid (fstF f g n 0 l = -1) := by show _ = _; rw [← HF.out]; rfl
          clear HX HC3 HF hb HBW
          go_wp2_with fail
          go_ret
          exact ⟨by rw [HR.out]; rfl, by rw [← hp]; exact HBR.out⟩
        | succ r =>
          have hkl : (k : Int) < l := by omega
          obtain ⟨b, off, rfl, hz⟩ := (HX.out.below hb).at (show k < l by omega)
          have c3 := HC3.out (f k) wr hb
          have HF2 : Hid (fstF f g n 0 l = if hasN g (f k) n = true then f k else fstF f g n (k + 1) r) := by show _ = _; rw [← HF.out]; rfl
          clear HX HC3 HF hb
          cases hg : hasN g (f k) n with
          | true =>
            rw [hg] at c3
            rw [hg, if_pos rfl] at HF2
            clear hg HBW
            generalize f k = y at *
            go_wp2_with fail
            refine c3.mono ?_
            rintro e w5 ⟨rfl, rfl⟩
            clear c3
            go_wp2_with fail
            go_ret
            exact ⟨by rw [HF2.out]; rfl, by rw [← hp]; exact HBR.out⟩
          | false =>
            rw [hg] at c3
            rw [hg, if_neg (by simp)] at HF2
            have HF3 : Hid (fstF f g n (k + 1) r = fstF f g n 0 l) := HF2.out.symm
            clear hg HF2 HBR
            generalize f k = y at *
            go_wp2_with fail
            refine c3.mono ?_
            rintro e w5 ⟨rfl, rfl⟩
            clear c3
            go_wp2_with fail
            go_roundw
            case rel => exact ⟨k + 1, r, by omega, by go_num, HF3, HBW.out⟩
            case measure => simp [intOf]; omega

end Go.Proofs.Ytgemdhhofflhgaa
