/- Lists of values: owned, appended at a step, cloned. -/
import Derived.Test.YtcdpnofjahdieaaSnt
import Derived.Test.YtcdpnofjahdieaaRgv
import Derived.Test.YtcdpnofjahdieaaHom
import Derived.Lib.SliceRun
import Derived.ArgAppend
import Derived.Deep.AppendLies
import Derived.Deep.RegionLaw
namespace Go.Proofs.Ytcdpnofjahdieaa
open Go.RowKit

/-- the values, in order -/
def vl (F : Nat → Value) (n : Nat) : List Value := (List.range n).map F
theorem vl_len (F : Nat → Value) (n : Nat) : (vl F n).length = n := by simp [vl]
theorem vl_at {F : Nat → Value} {n j : Nat} {u : Value} (h : (vl F n)[j]? = some u) : j < n ∧ u = F j := by
  have hj : j < n := by
    have := (List.getElem?_eq_some_iff.1 h).1
    rwa [vl_len] at this
  unfold vl at h
  rw [List.getElem?_map, List.getElem?_range hj] at h
  exact ⟨hj, (Option.some.inj h).symm⟩
theorem vl_get {F : Nat → Value} {n j : Nat} (h : j < n) : (vl F n)[j]? = some (F j) := by
  unfold vl
  rw [List.getElem?_map, List.getElem?_range h]; rfl
/-- what is owned, cell by cell -/
theorem own_V {w : World} {B n m : Nat} {e : TypeId} {v : Value} {F : Nat → Value} (h0 : w.ownsRow B e m v n (vl F (n * m))) : ∃ a c b, v = .slice a n c ∧ OwV a b (n * m) F w ∧ (n * m = 0 ∨ B ≤ b) ∧ (v.ownBlock = none ∨ v.ownBlock = some b) := by
  have h := h0
  obtain ⟨hlen, hv | ⟨b, cp, cur, hv, hg, hcur, _, hm2, _, _⟩⟩ := h
  · exact ⟨none, 0, 0, by rw [hv.1, hv.2], .inl (by rw [hv.2]; omega), .inl (by rw [hv.2]; omega), .inl (by rw [hv.1]; rfl)⟩
  · subst hv
    refine ⟨_, cp, b, rfl, .inr ⟨rfl, fun k hk => ⟨?_, h0.frozenAt k⟩⟩, .inr hg, .inr rfl⟩
    rw [h0.cellAt k hk, vl_get hk]
/-- a list of the call's own is answered -/
def OwG (e : TypeId) (m n : Nat) (F : Nat → Value) (w : World) (x : Ending) (w' : World) : Prop := ∃ v, x = .returned v ∧ w'.ownsRow w.heap.size e m v n (vl F (n * m)) ∧ Below w.heap.size w w'

/-- a list is appended onto an empty one without room, at a step of a region that draws -/
theorem stepAV (w : World) {o : Oper} {a : Act} {K : Act → World → Prop} {Q : Exit → Act → World → Prop} (s x : Operand) (t e : TypeId) (sz by8 : Nat) (z : Value) (ti : TypeInfo)
    (ht : Try.prog.underlying t = some (.slice e)) (hi1 : Try.prog.info? e = some ti) (hi2 : ti.zero = some z) (hi3 : ti.size = sz) (hi4 : ti.bytes = by8) (hzs : z.cells.size = sz) (h0 : 0 < sz) (h8 : by8 ≤ 1000)
    (ho : o.op = .call { callee := .builtin .append, args := #[s, x], argTypes := #[t, t] }) (q : Nat) (hs : a.eval s = .slice (some ⟨q, 0, none⟩) 0 0)
    (b m c : Nat) (F : Nat → Value) (hx : a.eval x = .slice (some ⟨b, 0, none⟩) m c) (hc : ∀ j, j < m * sz → w.cell? ⟨b, j, none⟩ = some (F j)) (hn : m ≤ 1048576)
    (h : ∀ a' c' b' w', OwV a' b' (m * sz) F w' → (m * sz = 0 ∨ w.heap.size ≤ b') → Below w.heap.size w w' → K (a.put o.dst (.slice a' m c')) w') :
    Oper.wp Try.prog o a w K Q := by
  have hnews : ∀ j u, (vl F (m * sz))[j]? = some u → w.cell? ((⟨b, 0, none⟩ : Addr).add j) = some u := fun j u hu => by
    obtain ⟨hj, rfl⟩ := vl_at hu
    rw [show (⟨b, 0, none⟩ : Addr).add j = ⟨b, j, none⟩ by by_cases h0 : j = 0 <;> simp [Addr.add, h0]]
    exact hc j hj
  by_cases hm : m = 0
  · subst hm
    have hv : vl F (0 * sz) = [] := by rw [Nat.zero_mul]; rfl
    have hr := run_append_room_cells (P := Try.prog) w t o.type e ti ht hi1 q 0 0 0 ⟨b, 0, none⟩ 0 c [] (by simp) (by simp) (by simp) (by omega) (by simp) (by simp)
    unfold Oper.wp execOp
    simp only [ho, resolve, invoke, builtin, Sem.run_bind, Sem.run_pure, Result.andThen_ok, List.map_toArray, List.map_cons, List.map_nil, hs, hx, hr]
    exact h _ _ 0 _ (.inl (by omega)) (.inl (by omega)) (Below.refl _ _)
  · obtain ⟨v', w', hr, r1, r2⟩ := run_append_arg_grows (P := Try.prog) w t o.type e ti z sz by8 ht hi1 hi2 hi3 hi4 hzs h0 ⟨q, 0, none⟩ 0 0 [] (by simp) (by simp) ⟨b, 0, none⟩ m c (vl F (m * sz)) (vl_len _ _) hnews (by omega) (by unfold maxLen; omega) (Nat.le_trans (Nat.mul_le_mul (show 0 + m ≤ 1048576 by omega) h8) (by omega))
    rw [Nat.zero_add, List.nil_append] at r1
    obtain ⟨a', c', b', rfl, ho', hb', -⟩ := own_V r1
    unfold Oper.wp execOp
    simp only [ho, resolve, invoke, builtin, Sem.run_bind, Sem.run_pure, Result.andThen_ok, List.map_toArray, List.map_cons, List.map_nil, hs, hx, hr]
    exact h a' c' b' w' ho' hb' ((Below.refl _ _).grown r2 (Nat.le_refl _) (fun q hq => by cases hq))

theorem oneEntry (E : Nat → SEntry) (j : Nat) : (FEntry E j).oneCell' = true := by
  unfold FEntry
  repeat' split
  all_goals rfl
theorem infoEntry : ∃ ti, Try.prog.info? 64 = some ti ∧ ti.zero = some (.agg #[.string ⟨#[]⟩, .int .i64 0, .int .i64 0, .int .i64 0, .int .i64 0]) ∧ ti.size = 5 ∧ ti.bytes = 48 := ⟨_, rfl, rfl, rfl, rfl⟩

set_option maxHeartbeats 2000000 in
set_option maxRecDepth 100000 in
theorem cloneEntry_any (b n c : Nat) (E : Nat → SEntry) (hl : n ≤ 1048576) (w : World) (h : ∀ j, j < n * 5 → w.cell? ⟨b, j, none⟩ = some (FEntry E j)) :
    Calls Try.prog 46 #[.slice (some ⟨b, 0, none⟩) n c] w (OwG 64 5 n (FEntry E) w) := by
  obtain ⟨i0, hi, hz0, hz1, hz2⟩ := infoEntry
  have q : ∀ (w : World) (a : Option Addr) (n c n' c' : Nat), (binOp .eql 28 (.slice a n c) (.slice none n' c')).run Try.prog w = .ok (.bool a.isNone) w := fun w a n c n' c' => Lib.run_eql_slice_nil w _ _ a n c n' c' Try.underlying28
  have HC := hide h
  clear h
  go_enter Try.func46, Try.ntmps46
  go_wp2_with (at_builtin; refine wpList_append_own _ rfl _ _ 28 rfl w.heap.size 64 i0 (.agg #[.string ⟨#[]⟩, .int .i64 0, .int .i64 0, .int .i64 0, .int .i64 0]) 5 48 Try.underlying28 hi hz0 hz1 hz2 rfl (by decide) _ _ _ rfl (World.ownsRow_made w #[] 0 (Nat.le_refl _) (Nat.zero_le _) rfl) ⟨b, 0, none⟩ n c (vl (FEntry E) (n * 5)) rfl ?qc1 ?qc2 ?qc3 ?qc4 ?qc5 ?qc6 ?_)
  case qc1 => exact vl_len _ _
  case qc2 =>
    intro j u hj
    obtain ⟨hj', rfl⟩ := vl_at hj
    rw [show (⟨b, 0, none⟩ : Addr).add j = ⟨b, j, none⟩ by by_cases h0 : j = 0 <;> simp [Addr.add, h0]]
    exact Lib.cell?_alloc_some _ (HC.out j hj')
  case qc3 =>
    intro u hu
    unfold vl at hu
    obtain ⟨j, -, rfl⟩ := List.mem_map.1 hu
    exact oneEntry E j
  case qc4 => unfold maxLen; omega
  case qc5 => omega
  case qc6 => simp
  intro v' w1 hown hgrow hnil
  have HO : Hid (w1.ownsRow w.heap.size 64 5 v' n (vl (FEntry E) (n * 5))) := by
    show World.ownsRow _ _ _ _ _ _ _
    simpa using hown
  have HB : Hid (Below w.heap.size w w1) := ((Below.refl _ w).alloc (Nat.le_refl _) _).grown hgrow (by simp) (by intro k hk; simp [Value.ownBlock] at hk; omega)
  clear hown hgrow hnil
  go_wp2_with fail
  go_ret
  exact ⟨v', rfl, HO.out, HB.out⟩

theorem oneCopy (E : Nat → SCopy) (j : Nat) : (FCopy E j).oneCell' = true := by
  unfold FCopy
  repeat' split
  all_goals rfl
theorem infoCopy : ∃ ti, Try.prog.info? 44 = some ti ∧ ti.zero = some (.agg #[.string ⟨#[]⟩, .int .i64 0, .string ⟨#[]⟩, .int .i64 0]) ∧ ti.size = 4 ∧ ti.bytes = 48 := ⟨_, rfl, rfl, rfl, rfl⟩

set_option maxHeartbeats 2000000 in
set_option maxRecDepth 100000 in
theorem cloneCopy_any (b n c : Nat) (E : Nat → SCopy) (hl : n ≤ 1048576) (w : World) (h : ∀ j, j < n * 4 → w.cell? ⟨b, j, none⟩ = some (FCopy E j)) :
    Calls Try.prog 47 #[.slice (some ⟨b, 0, none⟩) n c] w (OwG 44 4 n (FCopy E) w) := by
  obtain ⟨i0, hi, hz0, hz1, hz2⟩ := infoCopy
  have q : ∀ (w : World) (a : Option Addr) (n c n' c' : Nat), (binOp .eql 29 (.slice a n c) (.slice none n' c')).run Try.prog w = .ok (.bool a.isNone) w := fun w a n c n' c' => Lib.run_eql_slice_nil w _ _ a n c n' c' Try.underlying29
  have HC := hide h
  clear h
  go_enter Try.func47, Try.ntmps47
  go_wp2_with (at_builtin; refine wpList_append_own _ rfl _ _ 29 rfl w.heap.size 44 i0 (.agg #[.string ⟨#[]⟩, .int .i64 0, .string ⟨#[]⟩, .int .i64 0]) 4 48 Try.underlying29 hi hz0 hz1 hz2 rfl (by decide) _ _ _ rfl (World.ownsRow_made w #[] 0 (Nat.le_refl _) (Nat.zero_le _) rfl) ⟨b, 0, none⟩ n c (vl (FCopy E) (n * 4)) rfl ?qc1 ?qc2 ?qc3 ?qc4 ?qc5 ?qc6 ?_)
  case qc1 => exact vl_len _ _
  case qc2 =>
    intro j u hj
    obtain ⟨hj', rfl⟩ := vl_at hj
    rw [show (⟨b, 0, none⟩ : Addr).add j = ⟨b, j, none⟩ by by_cases h0 : j = 0 <;> simp [Addr.add, h0]]
    exact Lib.cell?_alloc_some _ (HC.out j hj')
  case qc3 =>
    intro u hu
    unfold vl at hu
    obtain ⟨j, -, rfl⟩ := List.mem_map.1 hu
    exact oneCopy E j
  case qc4 => unfold maxLen; omega
  case qc5 => omega
  case qc6 => simp
  intro v' w1 hown hgrow hnil
  have HO : Hid (w1.ownsRow w.heap.size 44 4 v' n (vl (FCopy E) (n * 4))) := by
    show World.ownsRow _ _ _ _ _ _ _
    simpa using hown
  have HB : Hid (Below w.heap.size w w1) := ((Below.refl _ w).alloc (Nat.le_refl _) _).grown hgrow (by simp) (by intro k hk; simp [Value.ownBlock] at hk; omega)
  clear hown hgrow hnil
  go_wp2_with fail
  go_ret
  exact ⟨v', rfl, HO.out, HB.out⟩

theorem oneNote (E : Nat → SNote) (j : Nat) : (FNote E j).oneCell' = true := by
  unfold FNote
  repeat' split
  all_goals rfl
theorem infoNote : ∃ ti, Try.prog.info? 68 = some ti ∧ ti.zero = some (.agg #[.int .i64 0, .int .i64 0, .string ⟨#[]⟩, .int .i64 0, .int .i64 0]) ∧ ti.size = 5 ∧ ti.bytes = 48 := ⟨_, rfl, rfl, rfl, rfl⟩

set_option maxHeartbeats 2000000 in
set_option maxRecDepth 100000 in
theorem cloneNote_any (b n c : Nat) (E : Nat → SNote) (hl : n ≤ 1048576) (w : World) (h : ∀ j, j < n * 5 → w.cell? ⟨b, j, none⟩ = some (FNote E j)) :
    Calls Try.prog 48 #[.slice (some ⟨b, 0, none⟩) n c] w (OwG 68 5 n (FNote E) w) := by
  obtain ⟨i0, hi, hz0, hz1, hz2⟩ := infoNote
  have q : ∀ (w : World) (a : Option Addr) (n c n' c' : Nat), (binOp .eql 30 (.slice a n c) (.slice none n' c')).run Try.prog w = .ok (.bool a.isNone) w := fun w a n c n' c' => Lib.run_eql_slice_nil w _ _ a n c n' c' Try.underlying30
  have HC := hide h
  clear h
  go_enter Try.func48, Try.ntmps48
  go_wp2_with (at_builtin; refine wpList_append_own _ rfl _ _ 30 rfl w.heap.size 68 i0 (.agg #[.int .i64 0, .int .i64 0, .string ⟨#[]⟩, .int .i64 0, .int .i64 0]) 5 48 Try.underlying30 hi hz0 hz1 hz2 rfl (by decide) _ _ _ rfl (World.ownsRow_made w #[] 0 (Nat.le_refl _) (Nat.zero_le _) rfl) ⟨b, 0, none⟩ n c (vl (FNote E) (n * 5)) rfl ?qc1 ?qc2 ?qc3 ?qc4 ?qc5 ?qc6 ?_)
  case qc1 => exact vl_len _ _
  case qc2 =>
    intro j u hj
    obtain ⟨hj', rfl⟩ := vl_at hj
    rw [show (⟨b, 0, none⟩ : Addr).add j = ⟨b, j, none⟩ by by_cases h0 : j = 0 <;> simp [Addr.add, h0]]
    exact Lib.cell?_alloc_some _ (HC.out j hj')
  case qc3 =>
    intro u hu
    unfold vl at hu
    obtain ⟨j, -, rfl⟩ := List.mem_map.1 hu
    exact oneNote E j
  case qc4 => unfold maxLen; omega
  case qc5 => omega
  case qc6 => simp
  intro v' w1 hown hgrow hnil
  have HO : Hid (w1.ownsRow w.heap.size 68 5 v' n (vl (FNote E) (n * 5))) := by
    show World.ownsRow _ _ _ _ _ _ _
    simpa using hown
  have HB : Hid (Below w.heap.size w w1) := ((Below.refl _ w).alloc (Nat.le_refl _) _).grown hgrow (by simp) (by intro k hk; simp [Value.ownBlock] at hk; omega)
  clear hown hgrow hnil
  go_wp2_with fail
  go_ret
  exact ⟨v', rfl, HO.out, HB.out⟩

end Go.Proofs.Ytcdpnofjahdieaa
