/- The twelve turns: the program. -/
import Derived.Test.YtkgkdhocmglklaaDoorTns
namespace Go.Proofs.YtkgkdhocmglklaaDoor
open Go.RowKit

theorem tb_under : Tryd.prog.underlying 63 = some (.array 12 28) := by kernel_rfl
theorem tb_info : (Tryd.prog.info? 63).map (·.size) = some (ints tbA).length := by kernel_rfl
theorem tb_take : ∀ k, k < 12 → tbA.take (4 * (k + 1)) = tbA.take (4 * k) ++ [tbA.getD (4 * k) 0, tbA.getD (4 * k + 1) 0, tbA.getD (4 * k + 2) 0, tbA.getD (4 * k + 3) 0] := by decide +kernel
theorem tb_range {w : World} (h : Tbl w) : w.rangeAt 0 0 (ints tbA) := fun j v hv => by
  have hj : j < 48 := by
    have := (List.getElem?_eq_some_iff.1 hv).1
    rw [ints_length] at this
    exact this
  have h1 := h j hj
  rw [Nat.zero_add, h1, ← hv]
  unfold ints
  have hj' : j < tbA.length := hj
  rw [List.getElem?_map, List.getElem?_eq_getElem hj', List.getD_eq_getElem?_getD, List.getElem?_eq_getElem hj']
  rfl
set_option maxRecDepth 100000 in
theorem tb_index (k : Nat) (hk : k < 12) (w : World) : (Instr.index 63 (.agg (ints tbA).toArray) (.int .i64 (k : Int))).run Tryd.prog w = .ok (vTurn (tbA.getD (4 * k) 0) (tbA.getD (4 * k + 1) 0) (tbA.getD (4 * k + 2) 0) (tbA.getD (4 * k + 3) 0)) w := by
  match k, hk with
  | 0, _ => rfl
  | 1, _ => rfl
  | 2, _ => rfl
  | 3, _ => rfl
  | 4, _ => rfl
  | 5, _ => rfl
  | 6, _ => rfl
  | 7, _ => rfl
  | 8, _ => rfl
  | 9, _ => rfl
  | 10, _ => rfl
  | 11, _ => rfl

set_option maxRecDepth 100000 in
set_option maxHeartbeats 4000000 in
theorem implTurns_any (w : World) (h : Tbl w) : Calls Tryd.prog 12 #[] w (TwR w) := by
  have HO0 : Hid (w.ownsRow w.heap.size 28 4 (.slice none 0 0) 0 (ints [])) := ⟨rfl, .inl ⟨rfl, rfl⟩⟩
  have HR := hide (tb_range h)
  have HI := hide tb_index
  have HU := hide tb_info
  have HTA : Hid (∀ k, k < 12 → tbA.take (4 * (k + 1)) = tbA.take (4 * k) ++ [tbA.getD (4 * k) 0, tbA.getD (4 * k + 1) 0, tbA.getD (4 * k + 2) 0, tbA.getD (4 * k + 3) 0]) := tb_take
  have HAL : Hid (tbA.take (4 * 12) = tbA) := rfl
  have HT0 : Hid (tbA.take (4 * 0) = []) := rfl
  clear h
  unfold TwR
  generalize tbA = A at *
  generalize hS : ints A = S at HR HI HU
  have HS := hide hS
  clear hS
  go_enter Tryd.func12, Tryd.ntmps12
  go_wp2_with (refine wpList_load_mid rfl 63 (.global 0) rfl 0 0 rfl S _ HR.out tb_under rfl HU.out ?_)
  have hi := HI.out
  generalize S.toArray = T at *
  clear HR HU HI
  go_wp2_with fail
  go_loopw [1, 5] (fun s i wr => ∃ (v : Value) (k : Nat), v = s ∧ k ≤ 12 ∧ i = .int .i64 (k : Int) ∧ wr.ownsRow w.heap.size 28 4 v k (ints (A.take (4 * k))) ∧ Below w.heap.size w wr) (fun _ i _ => (12 - intOf i).toNat)
  case atStart => exact ⟨_, 0, rfl, by omega, rfl, by rw [HT0.out]; exact HO0.out, Below.refl _ _⟩
  case round =>
    obtain ⟨v, k, rfl, hk, rfl, ho, hb⟩ := hrel
    have HO := hide ho
    have HB := hide hb
    clear ho hb HO0
    by_cases hlt : k < 12
    · have hik := hi k hlt
      have HK := hide (HTA.out k hlt)
      obtain ⟨a, ha⟩ : ∃ a, a = A.getD (4 * k) 0 := ⟨_, rfl⟩
      obtain ⟨b, hb⟩ : ∃ b, b = A.getD (4 * k + 1) 0 := ⟨_, rfl⟩
      obtain ⟨c, hc⟩ : ∃ c, c = A.getD (4 * k + 2) 0 := ⟨_, rfl⟩
      obtain ⟨d, hd⟩ : ∃ d, d = A.getD (4 * k + 3) 0 := ⟨_, rfl⟩
      rw [← ha, ← hb, ← hc, ← hd] at hik HK
      clear ha hb hc hd hi
      have HOX := hide (owns_keptB HO.out (bnew wr (.cells #[.int .i64 a, .int .i64 b, .int .i64 c, .int .i64 d] 28)))
      have HBX := hide (HB.out.trans ((bnew wr (.cells #[.int .i64 a, .int .i64 b, .int .i64 c, .int .i64 d] 28)).mono HB.out.size))
      have HX := hide (Bx.new [.int .i64 a, .int .i64 b, .int .i64 c, .int .i64 d] 28 wr)
      go_upto_region 5 with fail
      generalize hwX : wr.alloc (.cells #[.int .i64 a, .int .i64 b, .int .i64 c, .int .i64 d] 28) = wX at *
      have HX' : Hid (Bx wr.heap.size [.int .i64 a, .int .i64 b, .int .i64 c, .int .i64 d] wX) := HX.out
      clear hwX HX
      generalize wr.heap.size = X at *
      obtain ⟨x0, x1, x2, x3⟩ : wX.cell? ⟨X, 0, none⟩ = some (.int .i64 a) ∧ wX.cell? ⟨X, 1, none⟩ = some (.int .i64 b) ∧ wX.cell? ⟨X, 2, none⟩ = some (.int .i64 c) ∧ wX.cell? ⟨X, 3, none⟩ = some (.int .i64 d) :=
        ⟨(HX'.out 0 _ rfl).1, (HX'.out 1 _ rfl).1, (HX'.out 2 _ rfl).1, (HX'.out 3 _ rfl).1⟩
      have HLX := hide HBX.out.size
      go_wp2_with (refine growTu _ rfl _ _ rfl w.heap.size v k (A.take (4 * k)) rfl w HOX.out HBX.out HLX.out a b c d rfl (by omega) ?_)
      intro v' w' ho' hb' hs2
      rw [← HK.out] at ho'
      have HO' := hide ho'
      have HB' := hide hb'
      clear ho' hb' hs2 HOX HBX HLX HO HB hik
      go_wp2_with fail
      exact ⟨⟨v', k + 1, rfl, by omega, by simp, HO'.out, HB'.out⟩, by simp [intOf] <;> omega⟩
    · obtain rfl : k = 12 := by omega
      rw [HAL.out, HS.out] at HO
      go_wp2_with fail
      go_ret
      exact ⟨_, rfl, HO.out, HB.out⟩
end Go.Proofs.YtkgkdhocmglklaaDoor
