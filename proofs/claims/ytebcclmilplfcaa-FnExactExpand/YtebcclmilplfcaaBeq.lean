/- Two lists of bytes are held against each other (bytes.Equal). -/
import Derived.Test.YtebcclmilplfcaaBym
import Derived.Lib.Bytes
namespace Go.Proofs.Ytebcclmilplfcaa
open Go.RowKit

theorem conv_px (a : Option Addr) (n cap : Nat) (f : Nat → Int) (w : World) (h : PxU a n f w) :
    (convert 23 9 (.slice a n cap)).run Try.prog w = .ok (.string (strOfNums (fl f n))) w := by
  by_cases h0 : n = 0
  · subst h0
    cases a with
    | none =>
      rw [run_convert_bytes_nil w 23 5 Try.underlying23 Try.underlying5 0 cap 9 Try.underlying9]
      rfl
    | some ad =>
      rw [run_convert_bytes_string w 23 9 5 _ 0 cap Try.underlying23 Try.underlying5 Try.underlying9]
      have hl : (loadCells ad 0).run Try.prog w = .ok #[] w := by
        have := run_loadCells_list (P := Try.prog) w ad [] (fun j v hj => by cases hj)
        exact this
      simp [Conv.bytesToString, hl]
      rfl
  · rcases h with h | ⟨b, off, rfl, hc⟩
    · exact absurd h h0
    · refine run_convert_bytes_arg w 23 5 Try.underlying23 Try.underlying5 b off n cap (fl f n) (fl_len f n) ?_ 9 Try.underlying9
      intro i hi
      rw [hc i (by omega), fl_at f n i hi]

/-- are two lists of bytes the same -/
def sameU (f : Nat → Int) (n : Nat) (f' : Nat → Int) (n' : Nat) : Bool := decide (n = n') && allG (fun k => decide (f k = f' k)) n

theorem strOfNums_eq (L M : List Int) (hL : ∀ x ∈ L, 0 ≤ x ∧ x ≤ 255) (hM : ∀ x ∈ M, 0 ≤ x ∧ x ≤ 255) : ((strOfNums L).toList == (strOfNums M).toList) = decide (L = M) := by
  have hd : ∀ s : ByteArray, s.toList = s.data.toList := fun s => Lib.toList_data s
  rw [hd, hd, strOfNums_data, strOfNums_data]
  rw [Bool.eq_iff_iff]
  simp only [beq_iff_eq, decide_eq_true_eq]
  constructor
  · intro h
    have h2 := congrArg (List.map fun b : UInt8 => (b.toNat : Int)) h
    rw [List.map_map, List.map_map] at h2
    have hid : ∀ K : List Int, (∀ x ∈ K, 0 ≤ x ∧ x ≤ 255) → K.map ((fun b : UInt8 => (b.toNat : Int)) ∘ fun n => UInt8.ofNat n.toNat) = K := by
      intro K hK
      refine (List.map_congr_left fun x hx => ?_).trans (List.map_id K)
      have := hK x hx
      show ((UInt8.ofNat x.toNat).toNat : Int) = x
      rw [UInt8.toNat_ofNat']
      omega
    rw [hid L hL, hid M hM] at h2
    exact h2
  · intro h; rw [h]
theorem fl_mem (f : Nat → Int) (n : Nat) (h : ∀ k, k < n → 0 ≤ f k ∧ f k ≤ 255) : ∀ x ∈ fl f n, 0 ≤ x ∧ x ≤ 255 := by
  induction n with
  | zero => intro x hx; cases hx
  | succ n ih =>
    intro x hx
    simp only [fl, List.mem_append, List.mem_singleton] at hx
    rcases hx with hx | rfl
    · exact ih (fun k hk => h k (by omega)) x hx
    · exact h n (by omega)
theorem fl_same (f f' : Nat → Int) (n n' : Nat) : decide (fl f n = fl f' n') = sameU f n f' n' := by
  unfold sameU
  rw [Bool.eq_iff_iff, Bool.and_eq_true, decide_eq_true_eq, decide_eq_true_eq]
  constructor
  · intro h
    have hl : n = n' := by have := congrArg List.length h; rwa [fl_len, fl_len] at this
    subst hl
    refine ⟨rfl, ?_⟩
    have : ∀ k, k < n → f k = f' k := fun k hk => by rw [← fl_at f n k hk, h, fl_at f' n k hk]
    clear h
    induction n with
    | zero => rfl
    | succ n ih => simp only [allG, Bool.and_eq_true]; exact ⟨ih fun k hk => this k (by omega), by simp [this n (by omega)]⟩
  · rintro ⟨rfl, h⟩
    have : ∀ k, k < n → f k = f' k := fun k hk => by have := allG_at h k hk; simpa using this
    clear h
    induction n with
    | zero => rfl
    | succ n ih => simp only [fl]; rw [ih fun k hk => this k (by omega), this n (by omega)]

theorem bytesEqual_any (a a' : Option Addr) (n cap n' cap' : Nat) (f f' : Nat → Int) (hf : ∀ k, k < n → 0 ≤ f k ∧ f k ≤ 255) (hf' : ∀ k, k < n' → 0 ≤ f' k ∧ f' k ≤ 255) (w : World) (h : PxU a n f w) (h' : PxU a' n' f' w) :
    Calls Try.prog 40 #[.slice a n cap, .slice a' n' cap'] w fun e w' => e = .returned (.bool (sameU f n f' n')) ∧ w' = w := by
  have c1 := conv_px a n cap f w h
  have c2 := conv_px a' n' cap' f' w h'
  have HE := hide (strOfNums_eq (fl f n) (fl f' n') (fl_mem f n hf) (fl_mem f' n' hf'))
  rw [fl_same] at HE
  clear h h' hf hf'
  generalize strOfNums (fl f n) = s1 at *
  generalize strOfNums (fl f' n') = s2 at *
  go_enter Try.func40, Try.ntmps40
  go_wp2_with fail
  go_ret
  exact ⟨by rw [← HE.out]; rfl, rfl⟩

end Go.Proofs.Ytebcclmilplfcaa
