/- The draw of a list to be summed. -/
import Derived.Test.YtfgjooddolnifaaZSumD
namespace Go.Proofs.Ytfgjooddolnifaa.Z
open Ieee Go.RowKit Fl
attribute [local go_sem] run_store_float run_fquo alloc_drewN setCell_drewN shape?_drewN

set_option maxHeartbeats 1000000 in
theorem drawSum_any (a : Option Addr) (len cap : Nat) (w : World) (h : Bytes a len w) : Calls Try.prog 38 #[.slice a len cap] w (DrawnS w) := by
  have hn := new_any a len cap w h
  have hcn := cur_new a len cap w h
  clear h
  go_enter Try.func38, Try.ntmps38
  go_wp2_with fail
  refine hn.mono ?_
  rintro e w1 ⟨x, rfl, hw1⟩
  have hc1 : Cur w.heap.size a len cap w1 := by rw [hw1]; exact hcn x
  have B1 : Below w.heap.size w w1 := by rw [hw1]; exact (Below.refl _ _).alloc (Nat.le_refl _) _
  clear hn hcn hw1
  have hf1 := below_any w.heap.size a len cap w1 hc1 40 (by omega) (by omega)
  go_wp2_with fail
  refine hf1.mono ?_
  rintro e w2 ⟨y, rfl, y0, y1, hc2, hk2⟩
  obtain ⟨m, rfl⟩ : ∃ m : Nat, y = (m : Int) := ⟨y.toNat, by omega⟩
  have B2 : Below w.heap.size w w2 := B1.trans (hk2.below (Nat.le_refl _) B1.size)
  clear hf1 hk2 B1 hc1
  have hd := drawCxs_any w.heap.size a len cap m (by omega) w2 hc2
  go_wp2_with fail
  refine hd.mono ?_
  rintro e w3 ⟨v, xs, rfl, ho, hxs, hc3, hk3⟩
  have B3 : Below w.heap.size w w3 := B2.trans (hk3.below (Nat.le_refl _) B2.size)
  have hp2 : w.heap.size < w2.heap.size := World.block_lt_of_cell? w2 _ hc2.head
  clear hd hc2 hk3
  have h1 := once_any w.heap.size a len cap w3 hc3 60 (by omega) (by omega)
  go_wp2_with fail
  refine h1.mono ?_
  rintro e w4 ⟨q, rfl, hc4, hk4⟩
  have B4 : Below w.heap.size w w4 := B3.trans (hk4.below (Nat.le_refl _) B3.size)
  have ho4 := ho.kept hk4.grown (by
    right
    intro e
    have := (ho.lt w.heap.size e).1
    omega)
  clear h1 hk4 ho
  cases q
  · obtain ⟨a2, cap2, re, im, rfl, hc, hm, hcs⟩ := cs_of_owns ho4 hxs
    clear ho4 hxs hc4 hc3 B3 B2
    go_wp2_with fail
    go_ret
    exact ⟨a2, m, cap2, re, im, rfl, by omega, hc, hm, hcs, B4⟩
  · clear ho4 hxs
    have hf2 := below_any w.heap.size a len cap w4 hc4 2 (by omega) (by omega)
    go_wp2_with fail
    refine hf2.mono ?_
    rintro e w5 ⟨z, rfl, z0, z1, hc5, hk5⟩
    obtain ⟨l, hl⟩ : ∃ l : Nat, 4096 + z = (l : Int) := ⟨(4096 + z).toNat, by omega⟩
    have hl2 : l ≤ 4097 := by omega
    have hwr : IntKind.i64.wrap (4096 + z) = (l : Int) := by rw [IntKind.wrap_i64, hl]; omega
    have hmk := make_cs l (by omega) w5
    have B5 : Below w.heap.size w w5 := B4.trans (hk5.below (Nat.le_refl _) B4.size)
    have hs5 := B5.size
    clear hf2 hk5 hc5 hc4 hc3 B4 B3 B2
    go_wp2_with fail
    go_loopw [5] (fun i wr => ∃ k : Nat, k ≤ l ∧ i = .int .i64 k ∧ PartC w5.heap.size l 0 (fun _ => 0) (fun _ => 0) wr ∧ Below w.heap.size w wr) (fun i _ => l - (intOf i).toNat)
    case atStart => exact ⟨0, by omega, rfl, partC_new l _ _ w5, B5.alloc hs5 _⟩
    case round =>
      obtain ⟨k, hk, rfl, hp, hb⟩ := hrel
      clear hmk
      by_cases hlt : k < l
      · obtain ⟨⟨x, y, hx, hy, _⟩, f0, f1⟩ := hp k hlt
        have HP : Hid (∀ n z, PartC w5.heap.size l 0 (fun _ => 0) (fun _ => 0) ((wr.setCell ⟨w5.heap.size, k * 2, none⟩ (.float .f64 z)).drewN n)) := fun n z => PartC.poke hp hlt z
        have HB : Hid (∀ n z, Below w.heap.size w ((wr.setCell ⟨w5.heap.size, k * 2, none⟩ (.float .f64 z)).drewN n)) := fun n z => below_drewN (hb.setCell hs5 _) n
        clear hp hb
        go_wp2
        exact ⟨⟨k + 1, by omega, rfl, HP.out _ _, HB.out _ _⟩, by simp [intOf]; omega⟩
      · obtain rfl : k = l := by omega
        obtain ⟨re, im, hcs⟩ := cs_of_part hp
        go_wp2
        go_ret
        exact ⟨_, k, k, re, im, rfl, hl2, Nat.le_refl _, by unfold maxLen; omega, hcs, hb⟩

end Go.Proofs.Ytfgjooddolnifaa.Z
