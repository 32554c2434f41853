/- Squares, as an iterator gives them. -/
import Derived.Test.YtedjnemijeaeoaaItr
namespace Go.Proofs.Ytedjnemijeaeoaa
open Go.RowKit Go.Shelf

attribute [local go_sem] Oper.semAt_some

set_option maxRecDepth 100000 in
theorem squares_any (a : Option Addr) (len cap : Nat) (w : World) :
    Calls Try.prog 42 #[.slice a len cap] w fun e w' => e = .returned (.func (.func 60) #[] #[.pointer (some ⟨w.heap.size, 0, none⟩)]) ∧ w' = w.alloc (.cells #[.slice a len cap] 30) := by
  go_enter Try.func42, Try.ntmps42
  go_wp2
  go_ret
  exact ⟨rfl, rfl⟩

set_option maxRecDepth 100000 in
set_option maxHeartbeats 2000000 in
theorem squares_gv (a : Option Addr) (len cap Bs : Nat) (f : Nat → Int) (S : Nat → Prop) (w : World) (hl : len ≤ 1048576) (hc : w.cell? ⟨Bs, 0, none⟩ = some (.slice a len cap)) (px : Px a len f w) (hS : ∀ p, a = some p → S p.block) :
    Gv Try.prog 60 #[.pointer (some ⟨Bs, 0, none⟩)] (fl (fun k => IntKind.i64.wrap (f k * f k)) len) S w := by
  intro l J W hb hJ hY h0
  have hcW := (hb.cell (p := ⟨Bs, 0, none⟩) (World.block_lt_of_cell? w _ hc)).trans hc
  have HP := hide (px.below hb)
  clear hc px hb
  refine (callsIn_wide (n := 3)).1 ?_
  refine callsIn_of_wp Try.func60 rfl trivial ?_ rfl
  simp only [Try.ntmps60, List.size_toArray, List.length_cons, List.length_nil, Nat.reduceAdd, Nat.reduceSub, Array.replicate_succ, Array.replicate_zero, List.push_toArray, List.append_toArray, List.nil_append, List.cons_append]
  gi_wp2
  gi_loopw [4, 7] (fun _ i wr => ∃ k : Nat, k ≤ len ∧ i = .int .i64 k ∧ J (fl (fun k => IntKind.i64.wrap (f k * f k)) k) wr ∧ KS (fun k => S k ∨ W.heap.size ≤ k) W wr) (fun _ i _ => len - (intOf i).toNat)
  case atStart => exact ⟨0, Nat.zero_le _, rfl, h0, KS.refl _ _⟩
  case round =>
    obtain ⟨k, hk, rfl, hJs, hnx⟩ := hrel
    by_cases hlt : k < len
    · obtain ⟨b, off, rfl, hz⟩ := (hnx.px (fun p e => .inl (hS p e)) HP.out).at hlt
      obtain ⟨fn, tmps, assign, body, hy, hR⟩ := YieldAt.any (3 - 1) (hY _ (IntKind.i64.wrap (f k * f k)) wr hJs (fl_prefix (fun k => IntKind.i64.wrap (f k * f k)) (show k + 1 ≤ len by omega)))
      have HF : Hid (∀ W', J (fl (fun k => IntKind.i64.wrap (f k * f k)) k ++ [IntKind.i64.wrap (f k * f k)]) W' → J (fl (fun k => IntKind.i64.wrap (f k * f k)) (k + 1)) W') := fun _ h => h
      obtain ⟨z, hzz⟩ : ∃ z, IntKind.i64.wrap (f k * f k) = z := ⟨_, rfl⟩
      rw [hzz] at hy hR HF
      have HK := hide hnx
      clear hY HP hcW hnx hJs
      gi_wp2
      refine hR.mono ?_
      rintro e W3 ⟨rfl, hJ3, hk3⟩
      gi_wp2
      go_roundw
      case rel => exact ⟨k + 1, by omega, by simp, HF.out _ hJ3, HK.out.trans hk3⟩
      case measure => simp [intOf]; omega
    · obtain rfl : k = len := by omega
      gi_wp2
      go_end0
      exact ⟨⟨_, rfl⟩, hJs⟩

end Go.Proofs.Ytedjnemijeaeoaa
