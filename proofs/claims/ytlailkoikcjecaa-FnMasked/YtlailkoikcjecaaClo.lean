/- slices.Clone over any list of numbers; whether numbers are unlike. -/
import Derived.Test.YtlailkoikcjecaaCmp
import Derived.Test.YtlailkoikcjecaaSrt
namespace Go.Proofs.Ytlailkoikcjecaa
open Go.RowKit

theorem ints_fl (f : Nat → Int) (n j : Nat) (u : Value) (h : (ints (fl f n))[j]? = some u) : j < n ∧ u = .int .i64 (f j) := by
  have hl : (ints (fl f n)).length = n := by simp [ints, fl_len]
  have hj : j < n := by
    have := (List.getElem?_eq_some_iff.1 h).1
    omega
  refine ⟨hj, ?_⟩
  have e : (ints (fl f n))[j]? = some (.int .i64 ((fl f n).getD j 0)) := by
    simp [ints, List.getD, List.getElem?_eq_getElem (show j < (fl f n).length by rw [fl_len]; exact hj)]
  rw [e, fl_at f n j hj] at h
  exact (Option.some.inj h).symm
/-- a list of the call's own is answered -/
def OwR (L : List Int) (w : World) (e : Ending) (w' : World) : Prop := ∃ v, e = .returned v ∧ w'.ownsRow w.heap.size 2 1 v L.length (ints L) ∧ Below w.heap.size w w'

set_option maxHeartbeats 2000000 in
set_option maxRecDepth 100000 in
theorem cloneAd_any (ad : Addr) (n c : Nat) (f : Nat → Int) (hl : n ≤ 1048576) (w : World) (h : ∀ k, k < n → w.cell? (ad.add k) = some (.int .i64 (f k))) :
    Calls Try.prog 31 #[.slice (some ad) n c] w (OwR (fl f n) w) := by
  obtain ⟨i0, hi, hz0, hz1, hz2⟩ := info2
  have q : ∀ (w : World) (a : Option Addr) (n c n' c' : Nat), (binOp .eql 32 (.slice a n c) (.slice none n' c')).run Try.prog w = .ok (.bool a.isNone) w := fun w a n c n' c' => Lib.run_eql_slice_nil w _ _ a n c n' c' Try.underlying32
  have HC := hide h
  clear h
  go_enter Try.func31, Try.ntmps31
  go_wp2_with (at_builtin; refine wpList_append_own _ rfl _ _ 32 rfl w.heap.size 2 i0 (.int .i64 0) 1 8 Try.underlying32 hi hz0 hz1 hz2 rfl (by decide) _ _ _ rfl (World.ownsRow_made w #[] 0 (Nat.le_refl _) (Nat.zero_le _) rfl) ad n c (ints (fl f n)) rfl ?qc1 ?qc2 ?qc3 ?qc4 ?qc5 ?qc6 ?_)
  case qc1 => simp [ints, fl_len]
  case qc2 =>
    intro j u hj
    obtain ⟨hj', rfl⟩ := ints_fl f n j u hj
    exact Lib.cell?_alloc_some _ (HC.out j hj')
  case qc3 => intro u hu; simp [ints] at hu; obtain ⟨x, _, rfl⟩ := hu; rfl
  case qc4 => unfold maxLen; omega
  case qc5 => omega
  case qc6 => simp
  intro v' w1 hown hgrow hnil
  have HO : Hid (w1.ownsRow w.heap.size 2 1 v' (fl f n).length (ints (fl f n))) := by
    show World.ownsRow _ _ _ _ _ _ _
    rw [fl_len]
    simpa using hown
  have HB : Hid (Below w.heap.size w w1) := ((Below.refl _ w).alloc (Nat.le_refl _) _).grown hgrow (by simp) (by intro k hk; simp [Value.ownBlock] at hk; omega)
  clear hown hgrow hnil
  go_wp2_with fail
  go_ret
  exact ⟨v', rfl, HO.out, HB.out⟩

set_option maxHeartbeats 2000000 in
set_option maxRecDepth 100000 in
theorem cloneNil_any (c : Nat) (w : World) :
    Calls Try.prog 31 #[.slice none 0 c] w (OwR [] w) := by
  have q : ∀ (w : World) (a : Option Addr) (n c n' c' : Nat), (binOp .eql 32 (.slice a n c) (.slice none n' c')).run Try.prog w = .ok (.bool a.isNone) w := fun w a n c n' c' => Lib.run_eql_slice_nil w _ _ a n c n' c' Try.underlying32
  go_enter Try.func31, Try.ntmps31
  go_wp2_with fail
  go_ret
  exact ⟨_, rfl, World.ownsRow_nil _ _ _ _, Below.refl _ _⟩

theorem clonePx_any (a : Option Addr) (n c : Nat) (f : Nat → Int) (hl : n ≤ 1048576) (w : World) (h : Px a n f w) :
    Calls Try.prog 31 #[.slice a n c] w (OwR (fl f n) w) := by
  cases a with
  | none =>
    obtain rfl : n = 0 := by
      rcases h with h | ⟨b, off, ha, _⟩
      · exact h
      · cases ha
    exact cloneNil_any c w
  | some ad =>
    refine cloneAd_any ad n c f hl w fun k hk => ?_
    rcases h with h | ⟨b, off, ha, hc⟩
    · omega
    · cases ha
      rw [show (⟨b, off, none⟩ : Addr).add k = ⟨b, off + k, none⟩ by have := add1 b off k; rwa [Nat.mul_one] at this]
      exact hc k hk

theorem adjN_iff (L : List Int) : adjN (srt L) ↔ L.Nodup := by
  have hs := srt_srt L
  rw [← (srt_perm L).nodup_iff]
  generalize srt L = M at *
  induction M with
  | nil => exact ⟨fun _ => List.nodup_nil, fun _ k hk => by simp at hk⟩
  | cons x M ih =>
    have hs2 := (List.pairwise_cons.1 hs)
    rw [List.nodup_cons]
    constructor
    · intro h
      have hM : M.Nodup := (ih hs2.2).1 (fun k hk => by have := h (k + 1) (by simpa using hk); simpa using this)
      refine ⟨fun hx => ?_, hM⟩
      cases M with
      | nil => cases hx
      | cons y M =>
        have h0 := h 0 (by simp)
        simp at h0
        have h1 := hs2.1 y (List.mem_cons_self ..)
        have h2 := (List.pairwise_cons.1 hs2.2).1
        rcases List.mem_cons.1 hx with e | e
        · exact h0 e
        · have := h2 x e; omega
    · rintro ⟨hx, hM⟩ k hk
      cases k with
      | zero =>
        cases M with
        | nil => simp at hk
        | cons y M => simp; rintro rfl; exact hx (List.mem_cons_self ..)
      | succ k => have := (ih hs2.2).2 hM k (by simpa using hk); simpa using this

/-- are numbers unlike -/
def unlB (L : List Int) : Bool := decide L.Nodup

set_option maxRecDepth 100000 in
set_option maxHeartbeats 2000000 in
theorem areUnlike_any (a : Option Addr) (n c : Nat) (f : Nat → Int) (hl : n ≤ 1048576) (w : World) (h : Px a n f w) :
    Calls Try.prog 28 #[.slice a n c] w fun e w' => e = .returned (.bool (unlB (fl f n))) ∧ Below w.heap.size w w' := by
  have c1 := clonePx_any a n c f hl w h
  have hlen : (fl f n).length = n := fl_len f n
  have HIF := hide (adjN_iff (fl f n))
  have hsl := srt_len (fl f n)
  generalize hL : fl f n = L at *
  clear h hL
  have c2 := fun B v w' h' hB => sort_any B v L w' h' (by omega) hB
  have c3 := fun B v w' h' => compact_any B v (srt L) (by omega) w' h'
  rw [hsl] at c3
  unfold OwR at c1
  unfold CpR at c3
  rw [hlen] at c1 c2 c3
  generalize hM : srt L = M at *
  have HC2 := hide c2
  have HC3 := hide c3
  clear c2 c3 hM hsl hlen
  go_enter Try.func28, Try.ntmps28
  go_wp2_with fail
  refine c1.mono ?_
  rintro e w1 ⟨v1, rfl, ho1, hb1⟩
  have c2 := HC2.out w.heap.size v1 w1 ho1 hb1.size
  have HB1 := hide hb1
  clear c1 ho1 hb1 HC2
  go_wp2_with fail
  refine c2.mono ?_
  rintro e w2 ⟨rfl, ho2, hb2⟩
  have c3 := HC3.out w.heap.size v1 w2 ho2
  have HB2 := hide (HB1.out.trans hb2)
  clear c2 ho2 hb2 HB1 HC3
  go_wp2_with fail
  refine c3.mono ?_
  rintro e w3 ⟨a3, m, cp3, rfl, hiff, hmn, hb3⟩
  have HB3 := hide (HB2.out.trans hb3)
  have HV : Hid (((m : Int) == (n : Int)) = unlB L) := by
    show _ = _
    unfold unlB
    rw [Bool.eq_iff_iff]
    simp only [beq_iff_eq, decide_eq_true_eq]
    rw [← HIF.out, ← hiff]
    omega
  clear c3 hiff hb3 HB2 HIF
  go_wp2_with fail
  go_ret
  exact ⟨by rw [← HV.out]; rfl, HB3.out⟩

end Go.Proofs.Ytlailkoikcjecaa
