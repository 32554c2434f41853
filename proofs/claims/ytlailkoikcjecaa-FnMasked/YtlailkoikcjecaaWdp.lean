/- Lists of patients: when they are right, both ways. -/
import Derived.Test.YtlailkoikcjecaaWdm
import Derived.Test.YtlailkoikcjecaaClo
import Derived.BigRegion
namespace Go.Proofs.Ytlailkoikcjecaa
open Go.RowKit

/-- a patient's number; is he right -/
def idN (g : Nat → Int) (k : Nat) : Int := g (k * 4)
def ptAt (g : Nat → Int) (k : Nat) : Bool := ptB (g (k * 4)) (g (k * 4 + 1)) (g (k * 4 + 2)) (g (k * 4 + 3))
/-- are patients right -/
def ptsB (g : Nat → Int) (n : Nat) : Bool := decide (n ≤ 200) && (allG (ptAt g) n && unlB (fl (idN g) n))
theorem mem_flI (f : Nat → Int) (x : Int) : ∀ n, x ∈ fl f n ↔ ∃ k, k < n ∧ f k = x
  | 0 => by simp [fl]
  | n + 1 => by
    simp only [fl, List.mem_append, List.mem_singleton, mem_flI f x n]
    constructor
    · rintro (⟨k, hk, e⟩ | e)
      · exact ⟨k, by omega, e⟩
      · exact ⟨n, by omega, e.symm⟩
    · rintro ⟨k, hk, e⟩
      by_cases h : k = n
      · subst h; exact .inr e.symm
      · exact .inl ⟨k, by omega, e⟩
theorem nodup_fl (f : Nat → Int) : ∀ n, (fl f n).Nodup ↔ ∀ i, i < n → ∀ j, j < i → f j ≠ f i
  | 0 => by simp [fl]
  | n + 1 => by
    simp only [fl, List.nodup_append, nodup_fl f n, mem_flI]
    constructor
    · rintro ⟨h1, -, h2⟩ i hi j hj
      by_cases e : i = n
      · subst e
        exact h2 _ ⟨j, hj, rfl⟩ _ (List.mem_singleton.2 rfl)
      · exact h1 i (by omega) j hj
    · intro h
      refine ⟨fun i hi j hj => h i (by omega) j hj, by simp, ?_⟩
      rintro a ⟨k, hk, rfl⟩ b hb
      rw [List.mem_singleton] at hb
      subst hb
      exact h n (by omega) k hk
theorem ptsB_big {g : Nat → Int} {n : Nat} (h : ¬ n ≤ 200) : ptsB g n = false := by unfold ptsB; rw [decide_eq_false h]; rfl
theorem ptsB_bad {g : Nat → Int} {n k : Nat} (hk : k < n) (h : ptAt g k = false) : ptsB g n = false := by unfold ptsB; rw [allG_no k hk h]; simp
theorem ptsB_two {g : Nat → Int} {n i j : Nat} (hi : i < n) (hj : j < i) (h : g (j * 4) = g (i * 4)) : ptsB g n = false := by
  unfold ptsB unlB
  rw [decide_eq_false (p := (fl (idN g) n).Nodup) (fun hn => (nodup_fl _ _).1 hn i hi j hj h)]
  simp
theorem allG_of {p : Nat → Bool} : ∀ {n : Nat}, (∀ k, k < n → p k = true) → allG p n = true
  | 0, _ => rfl
  | n + 1, h => by simp only [allG]; rw [allG_of (n := n) (fun k hk => h k (by omega)), h n (by omega)]; rfl
theorem ptsB_ok {g : Nat → Int} {n : Nat} (h : n ≤ 200) (h1 : ∀ k, k < n → ptAt g k = true) (h2 : ∀ i, i < n → ∀ j, j < i → g (j * 4) ≠ g (i * 4)) : ptsB g n = true := by
  unfold ptsB unlB
  rw [decide_eq_true h, allG_of h1, decide_eq_true ((nodup_fl (idN g) n).2 h2)]
  rfl
theorem ptsB_at {g : Nat → Int} {n : Nat} (h : ptsB g n = true) : n ≤ 200 ∧ (∀ k, k < n → ptAt g k = true) ∧ (∀ i, i < n → ∀ j, j < i → g (j * 4) ≠ g (i * 4)) := by
  unfold ptsB unlB at h
  simp only [Bool.and_eq_true, decide_eq_true_eq] at h
  exact ⟨h.1, fun k hk => allG_at h.2.1 k hk, (nodup_fl _ _).1 h.2.2⟩

set_option maxRecDepth 100000 in
set_option maxHeartbeats 1000000 in
theorem l16Patients_any (a : Option Addr) (n cap : Nat) (g : Nat → Int) (hl : n ≤ 1048576) (w : World) (h : Px a (n * 4) g w) :
    Calls Try.prog 21 #[.slice a n cap] w fun e w' => e = .returned (.bool (ptsB g n)) ∧ Below w.heap.size w w' := by
  by_cases hn : n ≤ 200
  · have HP := hide h
    have hn2 : ¬ (200 : Int) < n := by omega
    clear h
    go_enter Try.func21, Try.ntmps21
    go_wp2_with fail
    go_loopw [3] (fun i wr => ∃ k : Nat, k ≤ n ∧ i = .int .i64 k ∧ (∀ j, j < k → ptAt g j = true) ∧ (∀ i, i < k → ∀ j, j < i → g (j * 4) ≠ g (i * 4)) ∧ Below w.heap.size w wr) (fun i _ => n - (intOf i).toNat)
    case atStart => exact ⟨0, by omega, rfl, fun j hj => by omega, fun i hi => by omega, Below.refl _ _⟩
    case round =>
      obtain ⟨k, hk, rfl, hA, hU, hb⟩ := hrel
      have HA := hide hA
      have HU := hide hU
      have HB := hide hb
      clear hA hU hb
      by_cases hlt : k < n
      · obtain ⟨b, off, rfl, hbl, z0, z1, z2, z3⟩ := (HP.out.below HB.out).atPatient hlt
        have c := l16Patient_any (g (k * 4)) (g (k * 4 + 1)) (g (k * 4 + 2)) (g (k * 4 + 3))
        cases hp : ptB (g (k * 4)) (g (k * 4 + 1)) (g (k * 4 + 2)) (g (k * 4 + 3))
        · rw [hp] at c
          have HR : Hid (ptsB g n = false) := ptsB_bad hlt hp
          clear hp HA HU hbl HP
          go_wp2_with fail
          refine (c _).mono ?_
          rintro e w1 ⟨rfl, hb1⟩
          have HB1 := hide (bnext HB.out (Nat.le_refl _) hb1)
          clear c hb1 z0 z1 z2 z3
          go_wp2_with fail
          go_ret
          exact ⟨by rw [HR.out]; rfl, HB1.out⟩
        · rw [hp] at c
          have HA2 : Hid (∀ j, j < k + 1 → ptAt g j = true) := fun j hj => by
            by_cases e : j = k
            · subst e; exact hp
            · exact HA.out j (by omega)
          clear hp HA hbl
          go_wp2_with fail
          refine (c _).mono ?_
          rintro e w1 ⟨rfl, hb1⟩
          have HB1 := hide (bnext HB.out (Nat.le_refl _) hb1)
          have HZ : Hid (w1.cell? ⟨b, off + k * 4, none⟩ = some (.int .i64 (g (k * 4)))) := (hb1.cell (World.block_lt_of_cell? _ _ z0)).trans z0
          have HPx := hide (HP.out.below HB1.out)
          clear c hb1 z0 z1 z2 z3 HB HP
          go_wp2_with fail
          go_loopw [4] (fun i wq => ∃ j : Nat, j ≤ k ∧ i = .int .i64 j ∧ (∀ j', j' < j → g (j' * 4) ≠ g (k * 4)) ∧ Below w1.heap.size w1 wq) (fun i _ => k - (intOf i).toNat)
          case atStart => exact ⟨0, by omega, rfl, fun j hj => by omega, Below.refl _ _⟩
          case round =>
            obtain ⟨j, hj, rfl, hD, hbq⟩ := hrel
            have HD := hide hD
            have HQ := hide hbq
            have HBQ := hide (bnext HB1.out (Nat.le_refl _) hbq)
            clear hD hbq HB1
            by_cases hjk : j < k
            · obtain ⟨b', off', hbe, hbl, y0, -, -, -⟩ := (HPx.out.below HQ.out).atPatient (k := j) (by omega)
              cases hbe
              have z0 := (HQ.out.cell (World.block_lt_of_cell? _ _ HZ.out)).trans HZ.out
              by_cases he : g (j * 4) = g (k * 4)
              · have HR : Hid (ptsB g n = false) := ptsB_two hlt hjk he
                rw [he] at y0
                clear he HD HPx HU HA2 hbl HZ HQ
                go_wp2_with fail
                go_region
                all_goals
                  go_wp2_with fail
                  go_ret
                  exact ⟨by rw [HR.out]; rfl, HBQ.out.drew⟩
              · have HD2 : Hid (∀ j', j' < j + 1 → g (j' * 4) ≠ g (k * 4)) := fun j' hj' => by
                  by_cases e : j' = j
                  · subst e; exact he
                  · exact HD.out j' (by omega)
                have hne : (g (j * 4) == g (k * 4)) = false := by simpa using he
                clear HD HPx HU HA2 hbl HZ HBQ
                generalize g (j * 4) = y at *
                generalize g (k * 4) = z at *
                go_wp2_with fail
                go_region
                all_goals
                  go_wp2_with fail
                  exact ⟨⟨j + 1, by omega, rfl, HD2.out, HQ.out.drew⟩, by simp [intOf]; omega⟩
            · obtain rfl : j = k := by omega
              have HU2 : Hid (∀ i, i < j + 1 → ∀ j', j' < i → g (j' * 4) ≠ g (i * 4)) := fun i hi j' hj' => by
                by_cases e : i = j
                · subst e; exact HD.out j' hj'
                · exact HU.out i (by omega) j' hj'
              clear HD HU HPx HZ HQ
              go_wp2_with fail
              exact ⟨⟨j + 1, by omega, rfl, HA2.out, HU2.out, HBQ.out⟩, by simp [intOf]; omega⟩
      · obtain rfl : k = n := by omega
        have HR : Hid (ptsB g k = true) := ptsB_ok hn HA.out HU.out
        clear HA HU HP
        go_wp2_with fail
        go_ret
        exact ⟨by rw [HR.out]; rfl, HB.out⟩
  · rw [ptsB_big hn]
    have hn2 : (200 : Int) < n := by omega
    clear h
    go_enter Try.func21, Try.ntmps21
    go_wp2_with fail
    go_ret
    exact ⟨rfl, Below.refl _ _⟩

set_option maxRecDepth 100000 in
set_option maxHeartbeats 1000000 in
theorem arePatients_any (a : Option Addr) (n cap : Nat) (g : Nat → Int) (hl : n ≤ 1048576) (w : World) (h : Px a (n * 4) g w) :
    Calls Try.prog 24 #[.slice a n cap] w fun e w' => e = .returned (.bool (ptsB g n)) ∧ Below w.heap.size w w' := by
  by_cases hn : n ≤ 200
  · have HP := hide h
    have hn2 : ¬ (200 : Int) < n := by omega
    obtain ⟨cur, hcur, hmk⟩ := make_cap n (by omega) w
    have HO0 : Hid ((w.alloc (.cells cur 2)).ownsRow w.heap.size 2 1 (.slice (some ⟨w.heap.size, 0, none⟩) 0 n) 0 (ints (fl (idN g) 0))) := World.ownsRow_made w cur n (Nat.le_refl _) (by unfold maxLen; omega) hcur
    clear h
    go_enter Try.func24, Try.ntmps24
    go_wp2_with fail
    clear hmk
    go_loopw [3, 14] (fun s i wr => ∃ (k : Nat) (v : Value), k ≤ n ∧ i = .int .i64 k ∧ v = s ∧ (∀ j, j < k → ptAt g j = true) ∧ wr.ownsRow w.heap.size 2 1 v k (ints (fl (idN g) k)) ∧ Below w.heap.size w wr ∧ w.heap.size < wr.heap.size) (fun _ i _ => n - (intOf i).toNat)
    case atStart => exact ⟨0, _, by omega, rfl, rfl, fun j hj => by omega, HO0.out, bnew _ _, by simp⟩
    case round =>
      obtain ⟨k, v, hk, rfl, rfl, hA, hO, hb, hs⟩ := hrel
      have HA := hide hA
      have HO := hide hO
      have HB := hide hb
      clear hA hO hb HO0
      by_cases hlt : k < n
      · obtain ⟨b, off, rfl, hbl, z0, z1, z2, z3⟩ := (HP.out.below HB.out).atPatient hlt
        have c := isPatient_any (g (k * 4)) (g (k * 4 + 1)) (g (k * 4 + 2)) (g (k * 4 + 3))
        have HX : Hid (fl (idN g) (k + 1) = fl (idN g) k ++ [g (k * 4)]) := rfl
        cases hp : ptB (g (k * 4)) (g (k * 4 + 1)) (g (k * 4 + 2)) (g (k * 4 + 3))
        · rw [hp] at c
          have HR : Hid (ptsB g n = false) := ptsB_bad hlt hp
          clear hp HA hbl HP HO HX
          generalize g (k * 4) = x0 at *
          generalize g (k * 4 + 1) = x1 at *
          generalize g (k * 4 + 2) = x2 at *
          generalize g (k * 4 + 3) = x3 at *
          have HB2 := hide (HB.out.alloc (Nat.le_of_lt hs) (cPatient x0 x1 x2 x3 31))
          go_wp2_with fail
          refine (c _).mono ?_
          rintro e w1 ⟨rfl, hb1⟩
          have HB1 := hide (bnext HB2.out (Nat.le_refl _) hb1)
          clear c hb1 z0 z1 z2 z3
          go_wp2_with fail
          go_ret
          exact ⟨by rw [HR.out]; rfl, HB1.out⟩
        · rw [hp] at c
          have HA2 : Hid (∀ j, j < k + 1 → ptAt g j = true) := fun j hj => by
            by_cases e : j = k
            · subst e; exact hp
            · exact HA.out j (by omega)
          clear hp HA hbl
          obtain ⟨wb, hwb⟩ : ∃ wb, wb = wr.alloc (cPatient (g (k * 4)) (g (k * 4 + 1)) (g (k * 4 + 2)) (g (k * 4 + 3)) 31) := ⟨_, rfl⟩
          have hbb : Below wr.heap.size wr wb := by rw [hwb]; exact bnew _ _
          have hbx : BPatient wr.heap.size (g (k * 4)) (g (k * 4 + 1)) (g (k * 4 + 2)) (g (k * 4 + 3)) wb := by rw [hwb]; exact BPatient.new _ _ _ _ _ _
          have hss : wr.heap.size < wb.heap.size := by rw [hwb]; simp
          have hwb' := hwb.symm
          clear hwb
          obtain ⟨q0, q1, q2, q3⟩ := hbx
          go_wp2_with fail
          refine (c _).mono ?_
          rintro e w1 ⟨rfl, hb1⟩
          have HB1 : Hid (Below w.heap.size w w1) := bnext HB.out (Nat.le_refl _) (bnext hbb (Nat.le_refl _) hb1)
          have HO1 : Hid (w1.ownsRow w.heap.size 2 1 v k (ints (fl (idN g) k))) := ownsRow_below' (ownsRow_below' HO.out hbb) hb1
          have x0 := (hb1.cell (p := ⟨wr.heap.size, 0, none⟩) hss).trans q0
          have HZ1 : Hid (w.heap.size ≤ w1.heap.size) := HB1.out.size
          have HNL : Hid (k ≤ 1048576) := by show _ ≤ _; omega
          clear c hb1 z0 z1 z2 z3 hwb' hbb HB HO q0 q1 q2 q3
          go_wp2_with (refine growL _ rfl _ _ rfl w.heap.size _ _ (fl (idN g) k) rfl w HO1.out HB1.out HZ1.out (g (k * 4)) rfl HNL.out ?_)
          intro v' w2 ho2 hb2 hs2
          rw [← HX.out] at ho2
          have HO2 := hide ho2
          have HB2 := hide hb2
          have hs3 : w.heap.size < w2.heap.size := Nat.lt_of_le_of_lt HZ1.out hs2
          clear ho2 hb2 HO1 HB1 HX x0
          go_wp2_with fail
          exact ⟨⟨k + 1, v', by omega, rfl, rfl, HA2.out, HO2.out, HB2.out, hs3⟩, by simp [intOf]; omega⟩
      · obtain rfl : k = n := by omega
        obtain ⟨a', cap', b', rfl, ho, -⟩ := ow_fl HO.out
        have c := areUnlike_any a' k cap' (idN g) (by omega) _ ho.px
        have HR : Hid (unlB (fl (idN g) k) = ptsB g k) := by
          show _ = _
          unfold ptsB
          rw [decide_eq_true hn, allG_of HA.out]; rfl
        clear HA HO HP
        generalize unlB (fl (idN g) k) = Z at *
        go_wp2_with fail
        refine c.mono ?_
        rintro e w1 ⟨rfl, hb1⟩
        have HB1 := hide (bnext HB.out (Nat.le_refl _) hb1)
        clear c hb1 ho
        go_wp2_with fail
        go_ret
        exact ⟨by rw [← HR.out]; rfl, HB1.out⟩
  · rw [ptsB_big hn]
    have hn2 : (200 : Int) < n := by omega
    clear h
    go_enter Try.func24, Try.ntmps24
    go_wp2_with fail
    go_ret
    exact ⟨rfl, Below.refl _ _⟩

end Go.Proofs.Ytlailkoikcjecaa
