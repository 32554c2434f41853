/- Lists of bytes: the law's own copies, comparisons and marks. -/
import Derived.Test.YtebcclmilplfcaaIls
import Derived.Test.YtebcclmilplfcaaByl
namespace Go.Proofs.Ytebcclmilplfcaa
open Go.RowKit

/-- bytes are there -/
def PxU (a : Option Addr) (len : Nat) (f : Nat → Int) (w : World) : Prop := len = 0 ∨ ∃ b off, a = some ⟨b, off, none⟩ ∧ ∀ k, k < len → w.cell? ⟨b, off + k, none⟩ = some (.int .u8 (f k))
/-- a byte as a value -/
abbrev u8V (f : Nat → Int) : Nat → Value := fun k => .int .u8 (f k)
theorem PxU.below {a : Option Addr} {len : Nat} {f : Nat → Int} {w w' : World} (h : PxU a len f w) (hb : Below w.heap.size w w') : PxU a len f w' := by
  rcases h with h | ⟨b, off, ha, hc⟩
  · exact .inl h
  · exact .inr ⟨b, off, ha, fun k hk => (hb.cell (p := ⟨b, off + k, none⟩) (World.block_lt_of_cell? w _ (hc k hk))).trans (hc k hk)⟩
theorem PxU.at {a : Option Addr} {len k : Nat} {f : Nat → Int} {w : World} (h : PxU a len f w) (hk : k < len) : ∃ b off, a = some ⟨b, off, none⟩ ∧ w.cell? ⟨b, off + k, none⟩ = some (.int .u8 (f k)) := by
  rcases h with h | ⟨b, off, ha, hc⟩
  · omega
  · exact ⟨b, off, ha, hc k hk⟩
theorem OwV.pxU {a : Option Addr} {b len : Nat} {f : Nat → Int} {w : World} (h : OwV a b len (u8V f) w) : PxU a len f w := by
  rcases h with h | ⟨ha, h⟩
  · exact .inl h
  · exact .inr ⟨b, 0, ha, fun k hk => by rw [Nat.zero_add]; exact (h k hk).1⟩
theorem RowV.owV {b len : Nat} {f : Nat → Value} {w : World} (h : RowV b len f w) : OwV (some ⟨b, 0, none⟩) b len f w := .inr ⟨rfl, h⟩
/-- a row that is being filled: the first k are there -/
def PtV (b len k : Nat) (f : Nat → Value) (w : World) : Prop := ∀ j, j < len → (∃ y, w.cell? ⟨b, j, none⟩ = some y ∧ (j < k → y = f j)) ∧ w.frozen? ⟨b, j, none⟩ = false
theorem PtV.step {b len k : Nat} {f : Nat → Value} {w : World} (h : PtV b len k f w) (v : Value) (hv : v = f k) : PtV b len (k + 1) f (w.setCell ⟨b, k, none⟩ v) := fun j hj => by
  obtain ⟨⟨y, hy, e⟩, fr⟩ := h j hj
  refine ⟨?_, by simpa using fr⟩
  by_cases hjk : j = k
  · subst hjk
    exact ⟨v, World.cell?_setCell_same _ _ _ hy, fun _ => hv⟩
  · exact ⟨y, by rw [World.cell?_setCell_other _ _ _ _ (by simp; try omega)]; exact hy, fun hj2 => e (by omega)⟩
theorem PtV.row {b len : Nat} {f : Nat → Value} {w : World} (h : PtV b len len f w) : RowV b len f w := fun j hj => by
  obtain ⟨⟨y, hy, e⟩, fr⟩ := h j hj
  rw [e hj] at hy
  exact ⟨hy, fr⟩
theorem RowV.pt {b len : Nat} {f g : Nat → Value} {w : World} (h : RowV b len g w) : PtV b len 0 f w := fun j hj => ⟨⟨_, (h j hj).1, fun x => absurd x (Nat.not_lt_zero _)⟩, (h j hj).2⟩

set_option maxRecDepth 100000 in
theorem make_u8 (n : Nat) (h : n ≤ 1048576) (w : World) :
    (Instr.makeSlice 23 (.int .i64 n) (.int .i64 n)).run Try.prog w = .ok (.slice (some ⟨w.heap.size, 0, none⟩) n n) (w.alloc (.cells (madeCells #[.int .u8 0] n) 5)) := by
  have := run_make (P := Try.prog) w 23 5 _ (.int .u8 0) Try.underlying23 rfl rfl .i64 .i64 n n (by omega) (by omega) (by show (1 : Int) * _ ≤ _; omega) (by omega)
  rw [this]
  show Result.ok (Value.slice _ (n : Int).toNat (n : Int).toNat) (w.alloc (.cells (madeCells (Value.cells (.int .u8 0)) ((n : Int).toNat * 1)) 5)) = _
  rw [Int.toNat_natCast, Nat.mul_one]
  rfl
theorem ptV_new (n : Nat) (f : Nat → Value) (w : World) : PtV w.heap.size n 0 f (w.alloc (.cells (madeCells #[.int .u8 0] n) 5)) := fun j hj => by
  have : (madeCells #[Value.int .u8 0] n)[j]? = some (.int .u8 0) := by
    rw [← Array.getElem?_toList, toList_madeCells_one, List.getElem?_replicate, if_pos hj]
  exact ⟨⟨.int .u8 0, by simp [go_sem, this], fun x => absurd x (Nat.not_lt_zero _)⟩, by simp [go_sem]⟩

theorem toBytes_any (a : Option Addr) (len cap : Nat) (f : Nat → Int) (hl : len ≤ 1048576) (w : World) (h : PxU a len f w) :
    Calls Try.prog 15 #[.slice a len cap] w fun e w' => e = .returned (.slice (some ⟨w.heap.size, 0, none⟩) len len) ∧ RowV w.heap.size len (u8V f) w' ∧ Below w.heap.size w w' ∧ w.heap.size < w'.heap.size := by
  have hmk := make_u8 len hl w
  have HP := hide h
  clear h
  go_enter Try.func15, Try.ntmps15
  go_wp2
  go_loopw [4] (fun i wr => ∃ k : Nat, k ≤ len ∧ i = .int .i64 k ∧ PtV w.heap.size len k (u8V f) wr ∧ Below w.heap.size w wr ∧ w.heap.size < wr.heap.size) (fun i _ => len - (intOf i).toNat)
  case atStart => exact ⟨0, by omega, rfl, ptV_new len _ w, bnew _ _, by simp⟩
  case round =>
    obtain ⟨k, hk, rfl, hp, hb, hs⟩ := hrel
    clear hmk
    by_cases hlt : k < len
    · obtain ⟨b, off, rfl, hz⟩ := (HP.out.below hb).at hlt
      obtain ⟨⟨y, hy, e⟩, fr⟩ := hp k hlt
      have HS := hide (hp.step (.int .u8 (f k)) rfl)
      have HB : Hid (Below w.heap.size w (wr.setCell ⟨w.heap.size, k, none⟩ (.int .u8 (f k)))) := hb.setCell (Nat.le_refl _) _
      have HZ : Hid (w.heap.size < (wr.setCell ⟨w.heap.size, k, none⟩ (.int .u8 (f k))).heap.size) := by show _ < _; simpa using hs
      clear HP hp e hb
      go_wp2
      go_roundw
      case rel => exact ⟨k + 1, by omega, by go_num, HS.out, HB.out, HZ.out⟩
      case measure => simp [intOf]; omega
    · obtain rfl : k = len := by omega
      go_wp2
      go_ret
      exact ⟨rfl, hp.row, hb, hs⟩

theorem eqBytes_any (a a' : Option Addr) (len cap cap' : Nat) (f : Nat → Int) (w : World) (h : PxU a len f w) (h' : PxU a' len f w) (hl : len ≤ 1048576) :
    Calls Try.prog 9 #[.slice a len cap, .slice a' len cap'] w fun e w' => e = .returned (.bool true) ∧ ∃ n, w' = w.drewN n := by
  have HP := hide h
  have HP' := hide h'
  clear h h'
  go_enter Try.func9, Try.ntmps9
  go_wp2
  go_loopw [5] (fun i wr => ∃ k n : Nat, k ≤ len ∧ i = .int .i64 k ∧ wr = w.drewN n) (fun i _ => len - (intOf i).toNat)
  case atStart => exact ⟨0, 0, by omega, rfl, rfl⟩
  case round =>
    obtain ⟨k, n, hk, rfl, rfl⟩ := hrel
    by_cases hlt : k < len
    · obtain ⟨b, off, rfl, hz⟩ := HP.out.at hlt
      obtain ⟨b', off', rfl, hz'⟩ := HP'.out.at hlt
      clear HP HP'
      go_wp2
      go_quiet (fail)
      go_wp2
      go_roundw
      case rel => exact ⟨k + 1, _, by omega, by go_num, rfl⟩
      case measure => simp [intOf]; omega
    · go_wp2
      go_ret
      exact ⟨rfl, _, rfl⟩

theorem eqBytes_b (a a' : Option Addr) (len cap cap' : Nat) (f : Nat → Int) (hl : len ≤ 1048576) (w : World) (h : PxU a len f w) (h' : PxU a' len f w) :
    Calls Try.prog 9 #[.slice a len cap, .slice a' len cap'] w fun e w' => e = .returned (.bool true) ∧ Below w.heap.size w w' :=
  (eqBytes_any a a' len cap cap' f w h h' hl).mono fun e w' ⟨he, n, hw⟩ => ⟨he, by rw [hw]; exact below_drewN (Below.refl _ _) _⟩
theorem RowV.v {b len : Nat} {f : Nat → Value} {w : World} (h : RowV b len f w) : OwV (some ⟨b, 0, none⟩) b len f w := .inr ⟨rfl, h⟩
/-- a list of bytes is answered -/
def LsU (n : Nat) (s : Nat → Int) (w : World) (e : Ending) (w' : World) : Prop :=
  ∃ a cap b, e = .returned (.slice a n cap) ∧ OwV a b n (u8V s) w' ∧ (n = 0 ∨ w.heap.size ≤ b) ∧ Below w.heap.size w w'

/-- the marks of bytes -/
abbrev mkU (k : Int) : Nat → Value := fun j => .int .u8 (IntKind.u8.wrap (k + j))

theorem markBytes_any (a : Option Addr) (b len cap : Nat) (f : Nat → Value) (k : Int) (h0 : 0 ≤ k) (h1 : k ≤ 4194304) (hl : len ≤ 1048576) (w : World) (h : OwV a b len f w) :
    Calls Try.prog 12 #[.slice a len cap, .int .i64 k] w fun e w' => e = .returned (.int .i64 (k + len)) ∧ OwV a b len (mkU k) w' ∧ Kept b w w' ∧ w'.heap.size = w.heap.size := by
  go_enter Try.func12, Try.ntmps12
  go_wp2
  go_loopw [1, 5] (fun m i wr => ∃ j : Nat, j ≤ len ∧ i = .int .i64 j ∧ m = .int .i64 (k + j) ∧ Kept b w wr ∧ wr.heap.size = w.heap.size ∧ (len = 0 ∨ (a = some ⟨b, 0, none⟩ ∧ PtV b len j (mkU k) wr))) (fun _ i _ => len - (intOf i).toNat)
  case atStart =>
    refine ⟨0, by omega, rfl, by simp, Kept.refl _ _, rfl, ?_⟩
    rcases h with h | ⟨ha, h⟩
    · exact .inl h
    · exact .inr ⟨ha, h.pt⟩
  case round =>
    obtain ⟨j, hj, rfl, rfl, hk, hs, hp⟩ := hrel
    clear h
    by_cases hlt : j < len
    · obtain ⟨ha, hq⟩ : a = some ⟨b, 0, none⟩ ∧ PtV b len j (mkU k) wr := by
        rcases hp with hp | hp
        · omega
        · exact hp
      clear hp
      subst ha
      obtain ⟨⟨y, hy, _⟩, fr⟩ := hq j hlt
      have HP := hide (hq.step (.int .u8 (IntKind.u8.wrap (k + j))) rfl)
      have HK : Hid (Kept b w (World.setCell _ ⟨b, j, none⟩ (.int .u8 (IntKind.u8.wrap (k + j))))) := hk.setCell rfl _
      have HS := hide hs
      clear hq hk hs
      generalize hU : IntKind.u8.wrap (k + j) = U at *
      go_wp2
      exact ⟨⟨j + 1, by omega, rfl, by congr 1; omega, HK.out, by simpa using HS.out, .inr ⟨trivial, HP.out⟩⟩, by simp [intOf]; omega⟩
    · obtain rfl : j = len := by omega
      go_wp2
      go_ret
      refine ⟨rfl, ?_, hk, hs⟩
      rcases hp with hp | ⟨ha, hp⟩
      · exact .inl hp
      · exact .inr ⟨ha, hp.row⟩

theorem heldBytes_any (a : Option Addr) (b len cap : Nat) (k : Int) (h0 : 0 ≤ k) (h1 : k ≤ 4194304) (hl : len ≤ 1048576) (w : World) (h : OwV a b len (mkU k) w) :
    Calls Try.prog 13 #[.slice a len cap, .int .i64 k] w fun e w' => e = .returned (.int .i64 (k + len)) ∧ w' = w := by
  have HO := hide h
  clear h
  go_enter Try.func13, Try.ntmps13
  go_wp2
  go_loop [1, 5] (fun m i => ∃ j : Nat, j ≤ len ∧ i = .int .i64 j ∧ m = .int .i64 (k + j)) (fun _ i => len - (intOf i).toNat)
  case atStart => exact ⟨0, by omega, rfl, by simp⟩
  case round =>
    obtain ⟨j, hj, rfl, rfl⟩ := hrel
    by_cases hlt : j < len
    · obtain ⟨ha, hq⟩ : a = some ⟨b, 0, none⟩ ∧ RowV b len (mkU k) w := by
        rcases HO.out with hp | hp
        · omega
        · exact hp
      clear HO
      subst ha
      have hy : w.cell? ⟨b, j, none⟩ = some (.int .u8 (IntKind.u8.wrap (k + j))) := (hq j hlt).1
      generalize hU : IntKind.u8.wrap (k + j) = U at *
      have hne : (U != U) = false := by simp
      clear hq
      go_wp2
      exact ⟨⟨j + 1, by omega, rfl, by congr 1; omega⟩, by simp [intOf]; omega⟩
    · obtain rfl : j = len := by omega
      go_wp2
      go_ret
      exact ⟨rfl, rfl⟩

end Go.Proofs.Ytebcclmilplfcaa
