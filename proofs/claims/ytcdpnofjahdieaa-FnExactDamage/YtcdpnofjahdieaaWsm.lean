/- The sum of a file's bytes, and numbers in bytes: the lowest first. -/
import Derived.Test.YtcdpnofjahdieaaBym
namespace Go.Proofs.Ytcdpnofjahdieaa
open Go.RowKit

/-- an append of new bytes to a great list of the call's own: the walk's step -/
theorem growUG (w : World) {ops : Array Oper} {rest : List Oper} {o : Oper} {a : Act} {Q : Exit → Act → World → Prop} (hgd : o.guard = none) (s x : Operand)
    (ho : o.op = .call { callee := .builtin .append, args := #[s, x], argTypes := #[82, 82] }) (B : Nat) (v : Value) (n : Nat) (L : List Int) (hs : a.eval s = v) (w0 : World) (hown : w.ownsRow B 5 1 v n (bys L)) (hb : Below B w0 w) (hB : B ≤ w.heap.size)
    (M : List Int) (m : Nat) (hx : a.eval x = .slice (some ⟨w.heap.size, 0, none⟩) m m) (hM : M.length = m) (hn : n + m ≤ 2000000000)
    (h : ∀ v' w', w'.ownsRow B 5 1 v' (n + m) (bys (L ++ M)) → Below B w0 w' → w.heap.size < w'.heap.size → wpList Try.prog ops Q rest (a.put o.dst v') w') :
    wpList Try.prog ops Q (o :: rest) a (w.alloc (.cells (bys M).toArray 5)) := by
  obtain ⟨ti, hi1, hi2, hi3, hi4⟩ := info5
  have hsw : w.heap.size < (w.alloc (.cells (bys M).toArray 5)).heap.size := by simp
  refine wpList_append_own _ hgd s x 82 ho B 5 ti (.int .u8 0) 1 1 Try.underlying82 hi1 hi2 hi3 hi4 rfl (by omega) v n (bys L) hs (hown.alloc _) ⟨w.heap.size, 0, none⟩ m m (bys M) hx (by rw [bys_length]; omega) (new_cells w (bys M) 5) (bys_one M) (by unfold maxLen; omega) (by omega) (Nat.le_trans hB (Nat.le_of_lt hsw)) ?_
  intro v' w' h1 h2 _
  have hr3 : ∀ q, Value.ownBlock v = some q → B ≤ q := fun q hq => (hown.lt q hq).1
  have hB3 : Below B (w.alloc (.cells (bys M).toArray 5)) w' := (Below.refl _ _).grown h2 (Nat.le_trans hB (Nat.le_of_lt hsw)) hr3
  refine h v' w' ?_ ((hb.alloc hB _).trans hB3) (Nat.lt_of_lt_of_le hsw hB3.size)
  rw [bys_append]; exact h1

/-- the two numbers of the sum -/
def adl (f : Nat → Int) : Nat → Int × Int
  | 0 => (1, 0)
  | n + 1 => (((adl f n).1 + f n) % 65521, ((adl f n).2 + ((adl f n).1 + f n) % 65521) % 65521)
theorem adl_bd (f : Nat → Int) : ∀ n, 0 ≤ (adl f n).1 ∧ (adl f n).1 < 65521 ∧ 0 ≤ (adl f n).2 ∧ (adl f n).2 < 65521
  | 0 => by simp [adl]
  | n + 1 => by simp only [adl]; omega
def adS (f : Nat → Int) (n : Nat) : Int := (adl f n).2 * 65536 + (adl f n).1

/-- a number in so many bytes, the lowest first -/
def lowL (u : Int) : Nat → List Int
  | 0 => []
  | s + 1 => u % 256 :: lowL (u / 256) s
theorem lowL_len (u : Int) : ∀ s, (lowL u s).length = s := by
  intro s
  induction s generalizing u with
  | zero => rfl
  | succ s ih => simp [lowL, ih]

set_option maxRecDepth 100000 in
set_option maxHeartbeats 1000000 in
theorem l12Low_any (B : Nat) (v : Value) (m : Nat) (L : List Int) (n : Int) (s : Nat) (hm : m ≤ 1900000000) (hs : s ≤ 8) (w : World) (ho : w.ownsRow B 5 1 v m (bys L)) (hB : B ≤ w.heap.size) :
    Calls Try.prog 53 #[v, .int .i64 n, .int .i64 s] w fun e w' => ∃ v', e = .returned v' ∧ w'.ownsRow B 5 1 v' (m + s) (bys (L ++ lowL (IntKind.u64.wrap n) s)) ∧ Below B w w' := by
  have HO0 := hide ho
  have hu0 : 0 ≤ IntKind.u64.wrap n ∧ IntKind.u64.wrap n ≤ 18446744073709551615 := by
    simp [IntKind.wrap, IntKind.signed, IntKind.bits]; omega
  have HR : Hid (∀ V W, W = w → V = v → True) := fun _ _ _ _ => trivial
  clear ho HR
  obtain ⟨U, hU⟩ : ∃ U, U = IntKind.u64.wrap n := ⟨_, rfl⟩
  rw [← hU] at hu0 ⊢
  have hU' := hU.symm
  clear hU
  go_enter Try.func53, Try.ntmps53
  go_wp2_with fail
  go_loopw [0, 2, 7] (fun x q u wr => ∃ (j : Nat) (M : List Int) (z : Int), j ≤ s ∧ q = .int .i64 j ∧ u = .int .u64 z ∧ 0 ≤ z ∧ z ≤ 18446744073709551615 ∧ M ++ lowL z j = L ++ lowL U s ∧ wr.ownsRow B 5 1 x (m + (s - j)) (bys M) ∧ Below B w wr) (fun _ q _ _ => (intOf q).toNat)
  case atStart => exact ⟨s, L, U, Nat.le_refl _, rfl, rfl, hu0.1, hu0.2, rfl, by simpa using HO0.out, Below.refl _ _⟩
  case round =>
    obtain ⟨j, M, z, hj, rfl, rfl, hz0, hz1, hM, hox, hb⟩ := hrel
    have HO := hide hox
    have HB := hide hb
    have HZ : Hid (B ≤ wr.heap.size) := Nat.le_trans hB hb.size
    have HM := hide hM
    clear hox hb hM HO0 hU'
    by_cases hj0 : j = 0
    · subst hj0
      have hF := HM.out
      simp only [lowL, List.append_nil] at hF
      have HF : Hid (wr.ownsRow B 5 1 u0 (m + s) (bys (L ++ lowL U s))) := by show World.ownsRow _ _ _ _ _ _ _; rw [← hF]; exact HO.out
      clear hF HM HO
      go_wp2_with fail
      go_ret
      exact ⟨_, rfl, HF.out, HB.out⟩
    · obtain ⟨q, rfl⟩ : ∃ q, j = q + 1 := ⟨j - 1, by omega⟩
      have c1 : (0 : Int) < ((q + 1 : Nat) : Int) := by omega
      have e1 : z.tmod 256 = z % 256 := Int.tmod_eq_emod_of_nonneg hz0
      have e2 : z.tdiv 256 = z / 256 := Int.tdiv_eq_ediv_of_nonneg hz0
      have HM2 : Hid ((M ++ [z % 256]) ++ lowL (z / 256) q = L ++ lowL U s) := by
        show _ = _
        rw [← HM.out, List.append_assoc]
        rfl
      have HN : Hid (m + (s - (q + 1)) + 1 ≤ 2000000000) := by show _ ≤ _; omega
      have z2 : 0 ≤ z / 256 ∧ z / 256 ≤ 18446744073709551615 := by omega
      have u1 : IntKind.u8.wrap (z % 256) = z % 256 := by simp [IntKind.wrap, IntKind.signed, IntKind.bits]
      have u2 : IntKind.u64.wrap (z % 256) = z % 256 := by simp [IntKind.wrap, IntKind.signed, IntKind.bits]; omega
      have u3 : IntKind.u64.wrap (z / 256) = z / 256 := by simp [IntKind.wrap, IntKind.signed, IntKind.bits]; omega
      have HL : Hid (m + (s - q) = m + (s - (q + 1)) + 1) := by show _ = _; omega
      have wq : IntKind.i64.wrap (((q + 1 : Nat) : Int) - 1) = (q : Int) := by rw [IntKind.wrap_i64]; omega
      clear HM
      go_wp2_with (refine growUG _ rfl _ _ rfl B _ (m + (s - (q + 1))) M rfl w HO.out HB.out HZ.out [z % 256] 1 rfl rfl HN.out ?_)
      intro v' w' ho' hb' hs'
      have HO' := hide ho'
      have HB' := hide hb'
      clear ho' hb' hs' HO HB
      go_wp2_with fail
      go_roundw
      case rel => exact ⟨q, M ++ [z % 256], z / 256, by omega, rfl, rfl, z2.1, z2.2, HM2.out, by rw [HL.out]; exact HO'.out, HB'.out⟩
      case measure => simp [intOf]

end Go.Proofs.Ytcdpnofjahdieaa
