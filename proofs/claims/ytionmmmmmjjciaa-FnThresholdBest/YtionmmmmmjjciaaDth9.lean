/- The draw of a histogram. -/
import Derived.Test.YtionmmmmmjjciaaDgy
import Derived.Test.YtionmmmmmjjciaaHgs
import Derived.Test.YtionmmmmmjjciaaGrl
namespace Go.Proofs.Ytionmmmmmjjciaa
open Go.RowKit

/-- what is known while a list of numbers is being drawn: it lies in a block of the call's own -/
structure DN (p : Nat) (a : Option Addr) (len cap : Nat) (w : World) (v : Value) (n : Nat) (L : List Int) (wr : World) : Prop where
  cur : Cur p a len cap wr
  kept : Kept p w wr
  own : wr.ownsRow w.heap.size 2 1 v n (ints L)
theorem DN.step {p : Nat} {a : Option Addr} {len cap : Nat} {w : World} {v : Value} {n : Nat} {L : List Int} {wr w' : World} (h : DN p a len cap w v n L wr) (hp : p < w.heap.size) (hc : Cur p a len cap w') (hk : Kept p wr w') : DN p a len cap w v n L w' :=
  ⟨hc, h.kept.trans hk, owns_kept h.own hk hp⟩
theorem DN.grown {p : Nat} {a : Option Addr} {len cap : Nat} {w : World} {v v' : Value} {n n' : Nat} {L L' : List Int} {wr w' : World} (h : DN p a len cap w v n L wr) (hp : p < w.heap.size) (hab : len = 0 ∨ ∀ b off, a = some ⟨b, off, none⟩ → b < w.heap.size) (ho : w'.ownsRow w.heap.size 2 1 v' n' (ints L')) (hb : Below w.heap.size wr w') : DN p a len cap w v' n' L' w' :=
  ⟨h.cur.belowB hb hp hab, h.kept.belowB hb (Nat.le_refl _), ho⟩
theorem DN.alloc {p : Nat} {a : Option Addr} {len cap : Nat} {w : World} {v : Value} {n : Nat} {L : List Int} {wr : World} (h : DN p a len cap w v n L wr) (o : Obj) : DN p a len cap w v n L (wr.alloc o) :=
  ⟨h.cur.below (bnew _ _), h.kept.trans (Kept.of_below (bnew _ _)), h.own.alloc _⟩
theorem own_isH {w : World} {B n m : Nat} {e : TypeId} {v : Value} {xs : List Value} (h : w.ownsRow B e m v n xs) : ∃ a cap, v = .slice a n cap := by
  obtain ⟨_, ⟨rfl, rfl⟩ | ⟨g, cap, cur, hv, _⟩⟩ := h
  · exact ⟨none, 0, rfl⟩
  · exact ⟨_, cap, hv⟩
theorem bytes_ltH {a : Option Addr} {len : Nat} {w : World} (h : Bytes a len w) {B : Nat} (hB : w.heap.size ≤ B) : len = 0 ∨ ∀ b off, a = some ⟨b, off, none⟩ → b < B := by
  by_cases h0 : len = 0
  · exact .inl h0
  · refine .inr fun b off e => ?_
    rcases h.2 with h1 | ⟨b', off', ha, hb⟩
    · exact absurd h1 h0
    · obtain ⟨z, _, _, hz⟩ := hb 0 (by omega)
      rw [e] at ha
      cases ha
      exact Nat.lt_of_lt_of_le (World.block_lt_of_cell? w _ hz) hB
theorem made_own (n : Nat) (hn : n ≤ maxLen) (w : World) : (w.alloc (.cells (madeCells #[.int .i64 0] n) 2)).ownsRow w.heap.size 2 1 (.slice (some ⟨w.heap.size, 0, none⟩) n n) n (ints (List.replicate n 0)) := by
  refine ⟨by simp [ints_length], .inr ⟨w.heap.size, n, madeCells #[.int .i64 0] n, rfl, Nat.le_refl _, heap_alloc_new w _, Nat.le_refl _, hn, ?_, ?_⟩⟩
  · rw [← Array.length_toList, toList_madeCells_one]; simp
  · rw [toList_madeCells_one]; simp [ints]
theorem owns_mono' {w : World} {B B' n m : Nat} {e : TypeId} {v : Value} {xs : List Value} (h : w.ownsRow B e m v n xs) (hB : B' ≤ B) : w.ownsRow B' e m v n xs := by
  obtain ⟨h1, h2⟩ := h
  refine ⟨h1, ?_⟩
  rcases h2 with h2 | ⟨g, cap, cur, hv, hB', hr⟩
  · exact .inl h2
  · exact .inr ⟨g, cap, cur, hv, Nat.le_trans hB hB', hr⟩
/-- a list of the call's own is answered -/
def OwA (w : World) (e : Ending) (w' : World) : Prop := ∃ v n L, e = .returned v ∧ n ≤ 256 ∧ w'.ownsRow w.heap.size 2 1 v n (ints L) ∧ Below w.heap.size w w'

set_option maxRecDepth 100000 in
set_option maxHeartbeats 1000000 in
theorem specHistogramO_any (W H : Int) (a : Option Addr) (n cap : Nat) (f : Nat → Int) (hl : n ≤ 1048576) (w : World) (h : Px a n f w) :
    Calls Try.prog 11 #[im W H a n cap] w (OwA w) := by
  have HS0 := hide ((St.start w).box [.int .i64 W, .int .i64 H, .slice a n cap] 35)
  have cG := l9Grey_any W H 255 a n cap f hl _ (h.below HS0.out.below)
  have HP := hide h
  have hmk := fun w' => make_px 256 (by omega) w'
  clear h
  go_enter Try.func11, Try.ntmps11
  go_upto_region 1 with fail
  generalize hw1 : w.alloc (.cells #[.int .i64 W, .int .i64 H, .slice a n cap] 35) = w1 at *
  have HS1 : Hid (St w [(w.heap.size, [.int .i64 W, .int .i64 H, .slice a n cap])] [] w1) := HS0.out
  clear HS0 hw1
  obtain ⟨i0, i1, i2⟩ := HS1.out.im3 0 rfl
  cases hg : gryB W H n f 255 with
  | false =>
    rw [hg] at cG
    go_wp2_with fail
    refine cG.mono ?_
    rintro e w2 ⟨rfl, hb⟩
    have HB := hide (HS1.out.next hb).below
    have HO : Hid ((w2.alloc (.cells #[] 2)).ownsRow w.heap.size 2 1 (.slice (some ⟨w2.heap.size, 0, none⟩) 0 0) 0 (ints [])) := World.ownsRow_lit w2 #[] 0 HB.out.size (by unfold maxLen; omega) rfl
    have HBB := hide (HB.out.alloc HB.out.size (.cells #[] 2))
    clear cG hb HS1 i0 i1 i2 hmk HB
    go_wp2_with fail
    go_ret
    exact ⟨_, 0, [], rfl, by omega, HO.out, HBB.out⟩
  | true =>
    rw [hg] at cG
    obtain ⟨hn4, hfb⟩ := gry_at hg
    have HFB := hide hfb
    clear hfb hg
    go_wp2_with fail
    refine cG.mono ?_
    rintro e w2 ⟨rfl, hb⟩
    have HS2 := hide (HS1.out.next hb)
    clear cG hb HS1 i0 i1 i2
    have HO3 := hide (made_own 256 (by unfold maxLen; omega) w2)
    have HS3 := hide (HS2.out.next (bnew w2 (.cells (madeCells #[.int .i64 0] 256) 2)))
    have HBg : Hid (w.heap.size < w2.heap.size) := (HS2.out.ltB 0 rfl).2
    have hmk2 := hmk w2
    have e256 : ((256 : Nat) : Int) = 256 := rfl
    rw [e256] at hmk2
    clear hmk e256
    go_upto_region 4 with fail
    generalize hw3 : w2.alloc (.cells (madeCells #[.int .i64 0] 256) 2) = w3 at *
    clear hw3 hmk2 HS2
    generalize hB : w2.heap.size = B at *
    clear hB
    go_wp2_with fail
    go_loopw [4] (fun i wr => ∃ (k : Nat) (L : List Int), k ≤ n ∧ i = .int .i64 k ∧ L.length = 256 ∧ wr.ownsRow B 2 1 (.slice (some ⟨B, 0, none⟩) 256 256) 256 (ints L) ∧ St w [(w.heap.size, [.int .i64 W, .int .i64 H, .slice a n cap])] [] wr) (fun i _ => n - (intOf i).toNat)
    case atStart => exact ⟨0, _, by omega, rfl, by simp, HO3.out, HS3.out⟩
    case round =>
      obtain ⟨k, L, hk, rfl, hL, hO, hS⟩ := hrel
      have HS := hide hS
      have HO := hide hO
      clear hS HS3 hO HO3
      obtain ⟨i0, i1, i2⟩ := HS.out.im3 0 rfl
      by_cases hlt : k < n
      · obtain ⟨b, off, rfl, hz⟩ := (HP.out.below HS.out.below).at hlt
        have hfk := HFB.out k hlt
        obtain ⟨V, hV⟩ : ∃ V : Nat, f k = (V : Int) := ⟨(f k).toNat, by omega⟩
        have hV2 : V < 256 := by omega
        obtain ⟨b', c', hv, -, hcl⟩ := own_partsL HO.out (by omega)
        cases hv
        obtain ⟨r1, r2⟩ := hcl V hV2
        have HU : Hid (∀ z : Int, (L.set V z).length = 256 ∧ (wr.setCell ⟨B, V, none⟩ (.int .i64 z)).ownsRow B 2 1 (.slice (some ⟨B, 0, none⟩) 256 256) 256 (ints (L.set V z)) ∧ St w [(w.heap.size, [.int .i64 W, .int .i64 H, .slice (some ⟨b, off, none⟩) n cap])] [] (wr.setCell ⟨B, V, none⟩ (.int .i64 z))) := fun z => by
          have hk : Kept B wr (wr.setCell ⟨B, V, none⟩ (.int .i64 z)) := (Kept.refl B wr).setCell (a := ⟨B, V, none⟩) rfl _
          have hg := HBg.out
          refine ⟨by rw [List.length_set]; exact hL, own_setL HO.out V z, ⟨HS.out.below.trans (hk.below (Nat.le_of_lt hg) HS.out.below.size), fun x hx => ?_, fun x hx => (by cases hx), fun c hc => ?_, HS.out.nd⟩⟩
          · have : x = (w.heap.size, [.int .i64 W, .int .i64 H, .slice (some ⟨b, off, none⟩) n cap]) := by simpa using hx
            subst this
            exact (HS.out.bx _ hx).kept hk (by show w.heap.size ≠ B; omega)
          · have := HS.out.lt c hc
            exact ⟨this.1, by simpa using this.2⟩
        rw [hV] at hz
        obtain ⟨C, hC⟩ : ∃ C, L.getD V 0 = C := ⟨_, rfl⟩
        rw [hC] at r1
        have hV3 : (V : Int) < 256 := by omega
        clear HS HP HFB hV hfk hcl HO hC hL
        go_upto_region 7 with fail
        go_region
        go_wp2_with fail
        go_roundw
        case rel => exact ⟨k + 1, _, by omega, by go_num, (HU.out _).1, (HU.out _).2.1, (HU.out _).2.2.drew⟩
        case measure => simp [intOf]; omega
      · obtain rfl : k = n := by omega
        have HB := hide HS.out.below
        have HO2 := hide (owns_mono' HO.out (Nat.le_of_lt HBg.out))
        clear HS HO HP
        go_wp2_with fail
        go_ret
        exact ⟨_, 256, L, rfl, by omega, HO2.out, HB.out⟩

end Go.Proofs.Ytionmmmmmjjciaa
