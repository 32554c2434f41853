/- The codec of a name, both sides. -/
import Derived.Test.YtebcclmilplfcaaCmk
namespace Go.Proofs.Ytebcclmilplfcaa
open Go.RowKit

/-- texts in a row -/
def PxT (b n : Nat) (g : Nat → ByteArray) (w : World) : Prop := ∀ k, k < n → w.cell? ⟨b, k, none⟩ = some (.string (g k))
theorem PxT.below {b n : Nat} {g : Nat → ByteArray} {w w' : World} (h : PxT b n g w) (hb : Below w.heap.size w w') : PxT b n g w' := fun k hk =>
  (hb.cell (p := ⟨b, k, none⟩) (World.block_lt_of_cell? w _ (h k hk))).trans (h k hk)
def g4 : Nat → ByteArray
  | 0 => sPlain
  | 1 => sRice
  | 2 => sRuns
  | _ => sSteps
theorem pxT_new (w : World) : PxT w.heap.size 4 g4 (w.alloc (.cells #[.string sPlain, .string sRice, .string sRuns, .string sSteps] 9)) := fun k hk => by
  obtain rfl | rfl | rfl | rfl : k = 0 ∨ k = 1 ∨ k = 2 ∨ k = 3 := by omega
  all_goals simp [go_sem, g4]
theorem codecNames_any (w : World) : Calls Try.prog 41 #[] w fun e w' => e = .returned (.slice (some ⟨w.heap.size, 0, none⟩) 4 4) ∧ PxT w.heap.size 4 g4 w' ∧ Below w.heap.size w w' := by
  have HN := hide (pxT_new w)
  have HB : Hid (Below w.heap.size w (w.alloc (.cells #[.string sPlain, .string sRice, .string sRuns, .string sSteps] 9))) := bnew _ _
  unfold sPlain sRice sRuns sSteps at HN HB
  go_enter Try.func41, Try.ntmps41
  go_wp2
  go_ret
  exact ⟨rfl, HN.out, HB.out⟩
theorem specCodecs_any (w : World) : Calls Try.prog 22 #[] w fun e w' => e = .returned (.slice (some ⟨w.heap.size, 0, none⟩) 4 4) ∧ PxT w.heap.size 4 g4 w' ∧ Below w.heap.size w w' := by
  have HN := hide (pxT_new w)
  have HB : Hid (Below w.heap.size w (w.alloc (.cells #[.string sPlain, .string sRice, .string sRuns, .string sSteps] 9))) := bnew _ _
  unfold sPlain sRice sRuns sSteps at HN HB
  go_enter Try.func22, Try.ntmps22
  go_wp2
  go_ret
  exact ⟨rfl, HN.out, HB.out⟩

theorem txt_ne {a b : ByteArray} (h : a ≠ b) : (a.toList == b.toList) = false := by
  rw [beq_eq_false_iff_ne, ByteArray.toList_eq, ByteArray.toList_eq]
  exact fun e => h (ByteArray.ext (Array.toList_inj.mp e))
/-- the first place of a text, or none -/
def isAt (g : Nat → ByteArray) (n : Nat) (s : ByteArray) (r : Int) : Prop := (∃ k : Nat, k < n ∧ g k = s ∧ (∀ j, j < k → g j ≠ s) ∧ r = k) ∨ ((∀ j, j < n → g j ≠ s) ∧ r = -1)

theorem index_any (b n cap : Nat) (g : Nat → ByteArray) (s : ByteArray) (hn : n ≤ 1048576) (w : World) (h : PxT b n g w) :
    Calls Try.prog 42 #[.slice (some ⟨b, 0, none⟩) n cap, .string s] w fun e w' => (∃ r, e = .returned (.int .i64 r) ∧ isAt g n s r) ∧ w' = w := by
  have HP := hide h
  clear h
  go_enter Try.func42, Try.ntmps42
  go_wp2
  go_loopw [5, 8] (fun _ i wr => ∃ j : Nat, j ≤ n ∧ i = .int .i64 j ∧ Hid (∀ k, k < j → g k ≠ s) ∧ wr = w) (fun _ i _ => n - (intOf i).toNat)
  case atStart => exact ⟨0, by omega, rfl, hide fun k hk => absurd hk (Nat.not_lt_zero _), rfl⟩
  case round =>
    obtain ⟨j, hj, rfl, HA, rfl⟩ := hrel
    by_cases hlt : j < n
    · have hz := HP.out j hlt
      by_cases he : g j = s
      · have HE := hide he
        rw [he] at hz
        clear he HP
        go_wp2_with fail
        go_ret
        exact ⟨⟨_, rfl, .inl ⟨j, hlt, HE.out, HA.out, rfl⟩⟩, rfl⟩
      · have HA2 : Hid (∀ k, k < j + 1 → g k ≠ s) := fun k hk => by
          by_cases e : k = j
          · rw [e]; exact he
          · exact HA.out k (by omega)
        have hne : (s.toList == (g j).toList) = false := txt_ne fun e => he e.symm
        clear HP HA
        generalize hX : g j = X at *
        clear hX
        go_wp2_with fail
        go_roundw
        case rel => exact ⟨j + 1, hlt, by go_num, HA2, trivial⟩
        case measure => simp [intOf]; omega
    · obtain rfl : j = n := by omega
      go_wp2
      go_ret
      exact ⟨⟨_, rfl, .inr ⟨HA.out, rfl⟩⟩, rfl⟩

theorem l12Find_any (b n cap : Nat) (g : Nat → ByteArray) (s : ByteArray) (hn : n ≤ 1048576) (w : World) (h : PxT b n g w) :
    Calls Try.prog 21 #[.slice (some ⟨b, 0, none⟩) n cap, .string s] w fun e w' => (∃ r, e = .returned (.int .i64 r) ∧ isAt g n s r) ∧ w' = w := by
  have HP := hide h
  clear h
  go_enter Try.func21, Try.ntmps21
  go_wp2
  go_loopw [5] (fun i wr => ∃ j : Nat, j ≤ n ∧ i = .int .i64 j ∧ Hid (∀ k, k < j → g k ≠ s) ∧ wr = w) (fun i _ => n - (intOf i).toNat)
  case atStart => exact ⟨0, by omega, rfl, hide fun k hk => absurd hk (Nat.not_lt_zero _), rfl⟩
  case round =>
    obtain ⟨j, hj, rfl, HA, rfl⟩ := hrel
    by_cases hlt : j < n
    · have hz := HP.out j hlt
      by_cases he : g j = s
      · have HE := hide he
        rw [he] at hz
        clear he HP
        go_wp2_with fail
        go_ret
        exact ⟨⟨_, rfl, .inl ⟨j, hlt, HE.out, HA.out, rfl⟩⟩, rfl⟩
      · have HA2 : Hid (∀ k, k < j + 1 → g k ≠ s) := fun k hk => by
          by_cases e : k = j
          · rw [e]; exact he
          · exact HA.out k (by omega)
        have hne : ((g j).toList == s.toList) = false := txt_ne he
        clear HP HA
        generalize hX : g j = X at *
        clear hX
        go_wp2_with fail
        go_roundw
        case rel => exact ⟨j + 1, hlt, by go_num, HA2, trivial⟩
        case measure => simp [intOf]; omega
    · obtain rfl : j = n := by omega
      go_wp2
      go_ret
      exact ⟨⟨_, rfl, .inr ⟨HA.out, rfl⟩⟩, rfl⟩

theorem isAt_cd {s : ByteArray} {r : Int} (h : isAt g4 4 s r) : r + 1 = cdN s := by
  rcases h with ⟨k, hk, he, hj, rfl⟩ | ⟨hj, rfl⟩
  · obtain rfl | rfl | rfl | rfl : k = 0 ∨ k = 1 ∨ k = 2 ∨ k = 3 := by omega
    · simp only [g4] at he
      unfold cdN; rw [if_pos he.symm]; rfl
    · have h0 := hj 0 (by omega)
      simp only [g4] at he h0
      unfold cdN; rw [if_neg (fun e => h0 e.symm), if_pos he.symm]; rfl
    · have h0 := hj 0 (by omega)
      have h1 := hj 1 (by omega)
      simp only [g4] at he h0 h1
      unfold cdN; rw [if_neg (fun e => h0 e.symm), if_neg (fun e => h1 e.symm), if_pos he.symm]; rfl
    · have h0 := hj 0 (by omega)
      have h1 := hj 1 (by omega)
      have h2 := hj 2 (by omega)
      simp only [g4] at he h0 h1 h2
      unfold cdN; rw [if_neg (fun e => h0 e.symm), if_neg (fun e => h1 e.symm), if_neg (fun e => h2 e.symm), if_pos he.symm]; rfl
  · have h0 := hj 0 (by omega)
    have h1 := hj 1 (by omega)
    have h2 := hj 2 (by omega)
    have h3 := hj 3 (by omega)
    simp only [g4] at h0 h1 h2 h3
    unfold cdN; rw [if_neg (fun e => h0 e.symm), if_neg (fun e => h1 e.symm), if_neg (fun e => h2 e.symm), if_neg (fun e => h3 e.symm)]; rfl
theorem cdN_le (s : ByteArray) : cdN s ≤ 4 := by unfold cdN; split; omega; split; omega; split; omega; split <;> omega

theorem codecNumber_any (s : ByteArray) (w : World) : Calls Try.prog 29 #[.string s] w fun e w' => e = .returned (.int .i64 (cdN s)) ∧ Below w.heap.size w w' := by
  have c1 := codecNames_any w
  have c2 := fun w' h' => index_any w.heap.size 4 4 g4 s (by omega) w' h'
  have hc := cdN_le s
  go_enter Try.func29, Try.ntmps29
  go_wp2_with fail
  refine c1.mono ?_
  rintro e w1 ⟨rfl, h1, hb1⟩
  have c3 := c2 w1 h1
  have HB1 := hide hb1
  clear c1 c2 h1 hb1
  go_wp2_with fail
  refine c3.mono ?_
  rintro e w2 ⟨⟨r, rfl, hr⟩, rfl⟩
  have hr' := isAt_cd hr
  have hq : IntKind.i64.wrap (r + 1) = (cdN s : Int) := by rw [hr', IntKind.wrap_i64]; omega
  clear c3 hr hr'
  go_wp2_with fail
  go_ret
  exact ⟨rfl, HB1.out⟩

end Go.Proofs.Ytebcclmilplfcaa
