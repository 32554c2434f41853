/- slices.Clone over a list of numbers that lies somewhere. -/
import Derived.Test.YtekoioggamhlaaaHom
import Derived.Lib.SliceRun
import Derived.Lib.Walk
import Derived.WalkKit
namespace Go.Proofs.Ytekoioggamhlaaa
open Go.RowKit Go.Lib

theorem ints_fl (f : Nat → Int) (n j : Nat) (u : Value) (h : (ints (fl f n))[j]? = some u) : j < n ∧ u = .int .i64 (f j) := by
  have hl : (ints (fl f n)).length = n := by simp [ints, fl_len]
  have hj : j < n := by
    have := (List.getElem?_eq_some_iff.1 h).1
    omega
  refine ⟨hj, ?_⟩
  have e : (ints (fl f n))[j]? = some (.int .i64 ((fl f n).getD j 0)) := by
    simp [ints, List.getD, List.getElem?_eq_getElem (show j < (fl f n).length by rw [fl_len]; exact hj)]
  rw [e, fl_at f n j hj] at h
  exact (Option.some.inj h).symm

set_option maxHeartbeats 2000000 in
set_option maxRecDepth 100000 in
theorem clone_any (b off n c : Nat) (f : Nat → Int) (hl : n ≤ 1048576) (w : World) (h : ∀ k, k < n → w.cell? ⟨b, off + k, none⟩ = some (.int .i64 (f k))) :
    Calls Try.prog 25 #[.slice (some ⟨b, off, none⟩) n c] w fun e w' => LsR n f w e w' := by
  obtain ⟨i0, hi, hz0, hz1, hz2⟩ := info2
  have q : ∀ (w : World) (a : Option Addr) (n c n' c' : Nat), (binOp .eql 24 (.slice a n c) (.slice none n' c')).run Try.prog w = .ok (.bool a.isNone) w := fun w a n c n' c' => Lib.run_eql_slice_nil w _ _ a n c n' c' Try.underlying24
  have HC := hide h
  clear h
  go_enter Try.func25, Try.ntmps25
  go_wp2_with (at_builtin; refine wpList_append_own _ rfl _ _ 24 rfl w.heap.size 2 i0 (.int .i64 0) 1 8 Try.underlying24 hi hz0 hz1 hz2 rfl (by decide) _ _ _ rfl (World.ownsRow_made w #[] 0 (Nat.le_refl _) (Nat.zero_le _) rfl) ⟨b, off, none⟩ n c (ints (fl f n)) rfl ?qc1 ?qc2 ?qc3 ?qc4 ?qc5 ?qc6 ?_)
  case qc1 => simp [ints, fl_len]
  case qc2 =>
    intro j u hj
    obtain ⟨hj', rfl⟩ := ints_fl f n j u hj
    rw [Addr.add_lit]
    exact Lib.cell?_alloc_some _ (HC.out j hj')
  case qc3 => intro u hu; simp [ints] at hu; obtain ⟨x, _, rfl⟩ := hu; rfl
  case qc4 => unfold maxLen; omega
  case qc5 => omega
  case qc6 => simp
  intro v' w1 hown hgrow hnil
  have hown' : w1.ownsRow w.heap.size 2 1 v' n (ints (fl f n)) := by simpa using hown
  have HB : Hid (Below w.heap.size w w1) := ((Below.refl _ w).alloc (Nat.le_refl _) _).grown hgrow (by simp) (by intro k hk; simp [Value.ownBlock] at hk; omega)
  obtain ⟨a, cap, t, rfl, ho, ht⟩ := ow_fl hown'
  have HO := hide ho
  have HT := hide ht
  clear hown hown' hgrow hnil ho ht
  go_wp2_with fail
  go_ret
  exact ⟨a, cap, t, rfl, HO.out, HT.out, HB.out⟩

end Go.Proofs.Ytekoioggamhlaaa
