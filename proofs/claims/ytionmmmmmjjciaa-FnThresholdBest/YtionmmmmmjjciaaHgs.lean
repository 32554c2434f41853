/- How often each tone comes: numbers, the specification. -/
import Derived.Test.YtionmmmmmjjciaaGry
import Derived.Test.YtionmmmmmjjciaaUpd
import Derived.BigRegion
namespace Go.Proofs.Ytionmmmmmjjciaa
open Go.RowKit

/-- how often v comes among the first k -/
def hst (f : Nat → Int) : Nat → Nat → Int
  | 0, _ => 0
  | k + 1, v => if f k = (v : Int) then hst f k v + 1 else hst f k v
theorem hst_bd (f : Nat → Int) : ∀ k v, 0 ≤ hst f k v ∧ hst f k v ≤ k
  | 0, _ => by simp [hst]
  | k + 1, v => by
    have := hst_bd f k v
    simp only [hst]
    split <;> omega
theorem hst_step (f : Nat → Int) (k V : Nat) (h : f k = (V : Int)) : updN (hst f k) V (hst f k V + 1) = hst f (k + 1) := by
  funext q
  unfold updN
  simp only [hst]
  by_cases e : q = V
  · subst e; rw [if_pos rfl, if_pos h]
  · rw [if_neg e, if_neg (by omega)]
theorem gry_at {W H : Int} {n : Nat} {f : Nat → Int} {m : Int} (h : gryB W H n f m = true) : n ≤ 4096 ∧ ∀ k, k < n → 0 ≤ f k ∧ f k ≤ m := (gryB_parts h).2
def hgN (W H : Int) (n : Nat) (f : Nat → Int) : Nat := if gryB W H n f 255 = true then 256 else 0
theorem hgN_le (W H : Int) (n : Nat) (f : Nat → Int) : hgN W H n f ≤ 1048576 := by unfold hgN; split <;> omega

set_option maxRecDepth 100000 in
set_option maxHeartbeats 1000000 in
theorem specHistogram_any (W H : Int) (a : Option Addr) (n cap : Nat) (f : Nat → Int) (hl : n ≤ 1048576) (w : World) (h : Px a n f w) :
    Calls Try.prog 11 #[im W H a n cap] w (LsR (hgN W H n f) (hst f n) w) := by
  have HS0 := hide ((St.start w).box [.int .i64 W, .int .i64 H, .slice a n cap] 35)
  have cG := l9Grey_any W H 255 a n cap f hl _ (h.below HS0.out.below)
  have HP := hide h
  have hmk := fun w' => make_px 256 (by omega) w'
  clear h
  go_enter Try.func11, Try.ntmps11
  go_upto_region 1 with fail
  generalize hw1 : w.alloc (.cells #[.int .i64 W, .int .i64 H, .slice a n cap] 35) = w1 at *
  have HS1 : Hid (St w [(w.heap.size, [.int .i64 W, .int .i64 H, .slice a n cap])] [] w1) := HS0.out
  clear HS0 hw1
  obtain ⟨i0, i1, i2⟩ := HS1.out.im3 0 rfl
  cases hg : gryB W H n f 255 with
  | false =>
    rw [hg] at cG
    have HN : Hid (hgN W H n f = 0) := by show _ = _; unfold hgN; rw [hg]; rfl
    go_wp2_with fail
    refine cG.mono ?_
    rintro e w2 ⟨rfl, hb⟩
    have HB := hide (HS1.out.next hb).below
    clear cG hb HS1 i0 i1 i2 hmk
    go_wp2_with fail
    go_ret
    rw [HN.out]
    exact ⟨_, _, 0, rfl, .inl rfl, .inl rfl, HB.out.alloc HB.out.size _⟩
  | true =>
    rw [hg] at cG
    have HN : Hid (hgN W H n f = 256) := by show _ = _; unfold hgN; rw [hg]; rfl
    obtain ⟨hn4, hfb⟩ := gry_at hg
    have HFB := hide hfb
    clear hfb hg
    go_wp2_with fail
    refine cG.mono ?_
    rintro e w2 ⟨rfl, hb⟩
    have HS2 := hide (HS1.out.next hb)
    clear cG hb HS1 i0 i1 i2
    have hr0 := row_new 256 w2
    have HS3 := hide (HS2.out.own (bnew w2 (.cells (madeCells #[.int .i64 0] 256) 2)) (Ow.of_row hr0).v (.inr (Nat.le_refl _)))
    clear hr0
    have hmk2 := hmk w2
    have e256 : ((256 : Nat) : Int) = 256 := rfl
    rw [e256] at hmk2
    clear hmk e256
    go_upto_region 4 with fail
    generalize hw3 : w2.alloc (.cells (madeCells #[.int .i64 0] 256) 2) = w3 at *
    have HS4 : Hid (St w [(w.heap.size, [.int .i64 W, .int .i64 H, .slice a n cap])] [(some ⟨w2.heap.size, 0, none⟩, w2.heap.size, 256, fun q => .int .i64 (hst f 0 q))] w3) := HS3.out
    clear HS3 hw3 hmk2 HS2
    generalize hB : w2.heap.size = B at *
    clear hB
    go_wp2_with fail
    go_loopw [4] (fun i wr => ∃ k : Nat, k ≤ n ∧ i = .int .i64 k ∧ St w [(w.heap.size, [.int .i64 W, .int .i64 H, .slice a n cap])] [(some ⟨B, 0, none⟩, B, 256, fun q => .int .i64 (hst f k q))] wr) (fun i _ => n - (intOf i).toNat)
    case atStart => exact ⟨0, by omega, rfl, HS4.out⟩
    case round =>
      obtain ⟨k, hk, rfl, hS⟩ := hrel
      have HS := hide hS
      clear hS HS4
      obtain ⟨i0, i1, i2⟩ := HS.out.im3 0 rfl
      by_cases hlt : k < n
      · obtain ⟨b, off, rfl, hz⟩ := (HP.out.below HS.out.below).at hlt
        have hfk := HFB.out k hlt
        obtain ⟨V, hV⟩ : ∃ V : Nat, f k = (V : Int) := ⟨(f k).toNat, by omega⟩
        have hV2 : V < 256 := by omega
        have HE := hide (hst_step f k V hV)
        have hbd := hst_bd f k V
        obtain ⟨r1, r2⟩ := HS.out.atO hV2
        have HU := hide (HS.out.upd hV2 (hst f k V + 1))
        rw [HE.out] at HU
        rw [hV] at hz
        have hwr : IntKind.i64.wrap (hst f k V + 1) = hst f k V + 1 := by rw [IntKind.wrap_i64]; omega
        have hV3 : (V : Int) < 256 := by omega
        clear HS HP HFB HE hV hfk
        generalize hst f k V = C at *
        go_upto_region 7 with fail
        go_region
        go_wp2_with fail
        go_roundw
        case rel => exact ⟨k + 1, by omega, by go_num, HU.out.drew⟩
        case measure => simp [intOf]; omega
      · obtain rfl : k = n := by omega
        have HR : Hid (LsR 256 (hst f k) w (.returned (.slice (some ⟨B, 0, none⟩) 256 256)) wr) := ⟨_, _, B, rfl, (HS.out.nthO 0 rfl).i, .inr (HS.out.lt B (mem_blocks_own (x := (some ⟨B, 0, none⟩, B, 256, fun q => .int .i64 (hst f k q))) (List.mem_singleton.2 rfl) (by show (256 : Nat) ≠ 0; omega))).1, HS.out.below⟩
        clear HS
        go_wp2_with fail
        go_ret
        rw [HN.out]
        exact HR.out

end Go.Proofs.Ytionmmmmmjjciaa
