/- The specification's Agree. -/
import Derived.Test.YtgemdhhofflhgaaOfb
namespace Go.Proofs.Ytgemdhhofflhgaa
open Go.RowKit

/-- the first k numbers are forms, and unlike -/
def okF (f : Nat → Int) (k : Nat) : Prop := ∀ i, i < k → inB (f i) 0 3 = true ∧ ∀ j, j < i → f j ≠ f i
theorem alW_iff (f : Nat → Int) (lo hi : Int) : ∀ n, alW f lo hi n = true ↔ ∀ i, i < n → inB (f i) lo hi = true
  | 0 => by simp [alW]
  | n + 1 => by
    simp only [alW, Bool.and_eq_true]
    rw [alW_iff f lo hi n]
    constructor
    · rintro ⟨h1, h2⟩ i hi
      by_cases e : i = n
      · subst e; exact h2
      · exact h1 i (by omega)
    · intro h; exact ⟨fun i hi => h i (by omega), h n (by omega)⟩
theorem nodup_fl (f : Nat → Int) : ∀ n, (fl f n).Nodup ↔ ∀ i, i < n → ∀ j, j < i → f j ≠ f i
  | 0 => by simp [fl]
  | n + 1 => by
    simp only [fl]
    rw [List.nodup_append, nodup_fl f n]
    constructor
    · rintro ⟨h1, _, h3⟩ i hi j hj
      by_cases e : i = n
      · subst e
        have hm : f j ∈ fl f i := by
          have := fl_at f i j hj
          rw [List.getD_eq_getElem?_getD, List.getElem?_eq_getElem (by rw [fl_len]; exact hj)] at this
          simp only [Option.getD_some] at this
          rw [← this]; exact List.getElem_mem _
        exact h3 _ hm _ (by simp)
      · exact h1 i (by omega) j hj
    · intro h
      refine ⟨fun i hi j hj => h i (by omega) j hj, by simp, fun x hx y hy => ?_⟩
      simp only [List.mem_singleton] at hy
      subst hy
      obtain ⟨j, hj, rfl⟩ := List.getElem_of_mem hx
      rw [fl_len] at hj
      have := fl_at f n j hj
      rw [List.getD_eq_getElem?_getD, List.getElem?_eq_getElem (by rw [fl_len]; exact hj)] at this
      simp only [Option.getD_some] at this
      rw [this]
      exact h n (by omega) j hj
theorem ofB_iff (id : Int) (l : Nat) (f : Nat → Int) : ofB id l f = true ↔ inB id 1 255 = true ∧ l ≤ 4 ∧ okF f l := by
  unfold ofB unlB okF
  simp only [Bool.and_eq_true, decide_eq_true_eq]
  rw [alW_iff, nodup_fl]
  constructor
  · rintro ⟨⟨⟨h1, h2⟩, h3⟩, h4⟩; exact ⟨h1, h2, fun i hi => ⟨h3 i hi, h4 i hi⟩⟩
  · rintro ⟨h1, h2, h3⟩; exact ⟨⟨⟨h1, h2⟩, fun i hi => (h3 i hi).1⟩, fun i hi => (h3 i hi).2⟩

set_option maxRecDepth 100000 in
set_option maxHeartbeats 4000000 in
theorem l15Offer_any (x : Option Addr) (l c : Nat) (f : Nat → Int) (id : Int) (hl : l ≤ 1048576) (w : World) (h : Px x l f w) :
    Calls Try.prog 12 #[vOf x l c id] w fun e w' => e = .returned (.bool (ofB id l f)) ∧ Below w.heap.size w w' := by
  have HB0 : Hid (Below w.heap.size w (w.alloc (.cells #[.int .i64 id, .slice x l c] 30))) := bnew _ _
  have c1 := fun w' => l1In_any id 1 255 w'
  have c2 := fun v w' => l1In_any v 0 3 w'
  have HX := hide (h.below HB0.out)
  have HZ : Hid ((w.alloc (.cells #[.int .i64 id, .slice x l c] 30)).cell? ⟨w.heap.size, 1, none⟩ = some (.slice x l c)) := by show _ = _; simp [go_sem]
  have z1 := HZ.out
  have z0 : (w.alloc (.cells #[.int .i64 id, .slice x l c] 30)).cell? ⟨w.heap.size, 0, none⟩ = some (.int .i64 id) := by simp [go_sem]
  have HV := hide (ofB_iff id l f)
  clear h
  generalize ofB id l f = V at *
  cases hI : inB id 1 255 with
  | false =>
    have HF : Hid (V = false) := by cases V with
      | false => rfl
      | true => have := (HV.out.1 rfl).1; rw [hI] at this; cases this
    simp only [hI] at c1
    clear HX HZ HV c2
    go_enter Try.func12, Try.ntmps12
    go_wp2_with fail
    refine (c1 _).mono ?_
    rintro e w1 ⟨rfl, rfl⟩
    go_wp2_with fail
    go_ret
    exact ⟨by rw [HF.out]; rfl, HB0.out⟩
  | true =>
  simp only [hI] at c1
  by_cases hl4 : (4 : Int) < l
  · have HF : Hid (V = false) := by cases V with
      | false => rfl
      | true => have := (HV.out.1 rfl).2.1; omega
    clear HX HZ HV c2
    go_enter Try.func12, Try.ntmps12
    go_wp2_with fail
    refine (c1 _).mono ?_
    rintro e w1 ⟨rfl, rfl⟩
    go_wp2_with fail
    go_ret
    exact ⟨by rw [HF.out]; rfl, HB0.out⟩
  have HVT : Hid (okF f l → V = true) := fun h => HV.out.2 ⟨hI, by omega, h⟩
  have HVF : Hid (¬ okF f l → V = false) := fun h => by
    cases V with
    | false => rfl
    | true => exact absurd (HV.out.1 rfl).2.2 h
  clear HV hI
  generalize hp : w.heap.size = p at *
  generalize hwa : w.alloc (.cells #[.int .i64 id, .slice x l c] 30) = wa at *
  go_enter Try.func12, Try.ntmps12
  go_wp2_with fail
  clear hwa
  refine (c1 _).mono ?_
  rintro e w1 ⟨rfl, rfl⟩
  clear c1
  go_wp2_with fail
  clear z1 z0
  go_loopw [3, 4] (fun i _ wr => ∃ k : Nat, k ≤ l ∧ i = .int .i64 k ∧ Hid (okF f k) ∧ Below w1.heap.size w1 wr) (fun i _ _ => l - (intOf i).toNat)
  case atStart => exact ⟨0, by omega, rfl, hide (fun i hi => absurd hi (Nat.not_lt_zero _)), Below.refl _ _⟩
  case round =>
    obtain ⟨k, hk, rfl, HO, hb⟩ := hrel
    have HB := hide hb
    have HBW : Hid (Below p w wr) := by rw [← hp]; exact bnext (hp ▸ HB0.out) (Nat.le_refl _) hb
    have z2 := cell_kept hb HZ.out
    by_cases hlt : k < l
    · have hlt' : (k : Int) < l := by omega
      obtain ⟨b, off, rfl, hz⟩ := (HX.out.below hb).at hlt
      have HOK : Hid (okF f k → inB (f k) 0 3 = true → (∀ j, j < k → f j ≠ f k) → okF f (k + 1)) := fun h1 h2 h3 i hi => by
        by_cases e : i = k
        · subst e; exact ⟨h2, h3⟩
        · exact h1 i (by omega)
      cases hF : inB (f k) 0 3 with
      | false =>
        have HF : Hid (V = false) := HVF.out (fun h => by have := (h k hlt).1; rw [hF] at this; cases this)
        clear HX HZ HVT HVF HO HOK hb HB
        generalize hy : f k = y at *
        go_wp2_with fail
        refine (c2 _ _).mono ?_
        rintro e w2 ⟨rfl, rfl⟩
        rw [hF]
        go_wp2_with fail
        go_ret
        exact ⟨by rw [HF.out]; rfl, HBW.out⟩
      | true =>
        have HFT := hide hF
        go_wp2_with fail
        refine (c2 _ _).mono ?_
        rintro e w2 ⟨rfl, rfl⟩
        rw [hF]
        clear hF z2 hz
        go_wp2_with fail
        go_loopw [4] (fun q wq => ∃ j : Nat, j ≤ k ∧ q = .int .i64 j ∧ Hid (∀ q, q < j → f q ≠ f k) ∧ Below w1.heap.size w1 wq) (fun q _ => k - (intOf q).toNat)
        case atStart => exact ⟨0, by omega, rfl, hide (fun q hq => absurd hq (Nat.not_lt_zero _)), HB.out⟩
        case round =>
          obtain ⟨j, hj, rfl, HJ, hb2⟩ := hrel
          have HBQ := hide hb2
          have HBR : Hid (Below p w wr.drew) := by rw [← hp]; exact (bnext (hp ▸ HB0.out) (Nat.le_refl _) hb2).drew
          have z2 := cell_kept hb2 HZ.out
          clear HB HBW
          by_cases hjk : j < k
          · have hjk' : (j : Int) < k := by omega
            have hjl : (j : Int) < l := by omega
            obtain ⟨b', off', e9, hzk⟩ := (HX.out.below hb2).at hlt
            cases e9
            obtain ⟨b', off', e9, hzj⟩ := (HX.out.below hb2).at (show j < l by omega)
            cases e9
            by_cases he : f j = f k
            · have HF : Hid (V = false) := HVF.out (fun h => (h k hlt).2 j hjk he)
              have heb : (f j == f k) = true := by simpa using he
              clear HX HZ HVT HVF HO HOK hb2 HBQ HJ HFT hb
              generalize f j = yj at *
              generalize f k = yk at *
              go_wp2_with fail
              go_region
              generalize wr.drew = wd at *
              clear z2 hzk hzj he
              go_wp2_with fail
              go_ret
              exact ⟨by rw [HF.out]; rfl, HBR.out⟩
            · have heb : (f j == f k) = false := by simpa using he
              have HJ2 : Hid (∀ q, q < j + 1 → f q ≠ f k) := fun q hq => by
                by_cases e : q = j
                · subst e; exact he
                · exact HJ.out q (by omega)
              have HBQ2 : Hid (Below w1.heap.size w1 wr.drew) := HBQ.out.drew
              clear HJ hb2 HBQ HBR hb
              generalize hyj : f j = yj at *
              generalize hyk : f k = yk at *
              clear hyj hyk
              go_wp2_with fail
              go_region
              generalize wr.drew = wd at *
              clear z2 hzk hzj he
              go_wp2_with fail
              go_roundw
              case rel => exact ⟨j + 1, by omega, by go_num, HJ2, HBQ2.out⟩
              case measure => simp [intOf]; omega
          · obtain rfl : j = k := by omega
            have HO2 : Hid (okF f (j + 1)) := HOK.out HO.out HFT.out HJ.out
            clear HJ HOK HO hb HBR z2 hb2
            go_wp2_with fail
            go_roundw
            case rel => exact ⟨j + 1, by omega, by go_num, HO2, HBQ.out⟩
            case measure => simp [intOf]; omega
    · obtain rfl : k = l := by omega
      have HT : Hid (V = true) := HVT.out HO.out
      clear HX HZ HVT HVF HO hb HB c2
      go_wp2_with fail
      go_ret
      exact ⟨by rw [HT.out]; rfl, HBW.out⟩

end Go.Proofs.Ytgemdhhofflhgaa
