/- Offsets within a reach, and beside. -/
import Derived.Test.YtipkfaajngabmaaSgr
namespace Go.Proofs.Ytipkfaajngabmaa
open Go.RowKit

/-- the numbers of all offsets within a across and d down, by rows -/
def offF (a d : Nat) (q : Nat) : Int := if q % 2 = 0 then ((q / 2 % (2 * a + 1) : Nat) : Int) - a else ((q / 2 / (2 * a + 1) : Nat) : Int) - d
theorem offF_x (a d r c : Nat) (hc : c < 2 * a + 1) : offF a d ((r * (2 * a + 1) + c) * 2) = (c : Int) - a := by
  unfold offF
  rw [if_pos (by omega), show (r * (2 * a + 1) + c) * 2 / 2 = r * (2 * a + 1) + c by omega, Nat.mul_comm, Nat.mul_add_mod, Nat.mod_eq_of_lt hc]
theorem offF_y (a d r c : Nat) (hc : c < 2 * a + 1) : offF a d ((r * (2 * a + 1) + c) * 2 + 1) = (r : Int) - d := by
  unfold offF
  rw [if_neg (by omega), show ((r * (2 * a + 1) + c) * 2 + 1) / 2 = r * (2 * a + 1) + c by omega, Nat.mul_comm, Nat.mul_add_div (by omega), Nat.div_eq_of_lt hc]
  simp
theorem offF_bd (a d : Nat) (ha : a ≤ 64) (hd : d ≤ 64) : ∀ j, j < (2 * d + 1) * (2 * a + 1) * 2 → -64 ≤ offF a d j ∧ offF a d j ≤ 64 := by
  intro j hj
  have h1 : j / 2 % (2 * a + 1) < 2 * a + 1 := Nat.mod_lt _ (by omega)
  have h2 : j / 2 / (2 * a + 1) < 2 * d + 1 := by
    rw [Nat.div_lt_iff_lt_mul (by omega)]
    omega
  unfold offF
  generalize j / 2 % (2 * a + 1) = x at *
  generalize j / 2 / (2 * a + 1) = y at *
  split <;> omega

set_option maxRecDepth 100000 in
set_option maxHeartbeats 2000000 in
theorem offsetsWithin_any (a d : Nat) (ha : a ≤ 63) (hd : d ≤ 63) (w : World) :
    Calls Try.prog 51 #[.int .i64 a, .int .i64 d] w (SpR ((2 * d + 1) * (2 * a + 1)) (offF a d) w) := by
  have hna : ((a : Int)) ≤ 63 := by omega
  have hnd : ((d : Int)) ≤ 63 := by omega
  go_enter Try.func51, Try.ntmps51
  go_wp2_with fail
  go_loopw [5, 6, 7] (fun v y _ wr => ∃ r : Nat, r ≤ 2 * d + 1 ∧ y = .int .i64 ((r : Int) - d) ∧ wr.ownsRow w.heap.size 40 2 v (r * (2 * a + 1)) (ints (fl (offF a d) (r * (2 * a + 1) * 2))) ∧ Below w.heap.size w wr) (fun _ y _ _ => (d + 1 - intOf y).toNat)
  case atStart => exact ⟨0, by omega, by simp, by rw [Nat.zero_mul]; exact World.ownsRow_nil _ _ _ _, Below.refl _ _⟩
  case round =>
    obtain ⟨r, hr, rfl, ho, hb⟩ := hrel
    have HO := hide ho
    have HB := hide hb
    clear ho hb
    by_cases hlt : r < 2 * d + 1
    · have hle : (r : Int) - d ≤ d := by omega
      go_wp2_with fail
      go_loopw [5, 7] (fun v x wr => ∃ c : Nat, c ≤ 2 * a + 1 ∧ x = .int .i64 ((c : Int) - a) ∧ wr.ownsRow w.heap.size 40 2 v (r * (2 * a + 1) + c) (ints (fl (offF a d) ((r * (2 * a + 1) + c) * 2))) ∧ Below w.heap.size w wr) (fun _ x _ => (a + 1 - intOf x).toNat)
      case atStart => exact ⟨0, by omega, by simp, HO.out, HB.out⟩
      case round =>
        obtain ⟨c, hc, rfl, ho, hb⟩ := hrel
        clear HO HB
        have HO := hide ho
        have HB := hide hb
        clear ho hb
        by_cases hcl : c < 2 * a + 1
        · have hcle : (c : Int) - a ≤ a := by omega
          have HX := hide (offF_x a d r c hcl).symm
          have HY := hide (offF_y a d r c hcl).symm
          have HS := hide HB.out.size
          have hmul : r * (2 * a + 1) ≤ 127 * 127 := Nat.mul_le_mul (by omega) (by omega)
          have HL : Hid (r * (2 * a + 1) + c ≤ 1048576) := by show _ ≤ _; omega
          clear hmul
          go_wp2_with (refine growS _ rfl _ _ rfl w.heap.size _ (r * (2 * a + 1) + c) (offF a d) rfl w HO.out HB.out HS.out ((c : Int) - a) ((r : Int) - d) HX.out HY.out rfl HL.out ?_)
          intro v' w' ho' hb' hs'
          have HO' := hide ho'
          have HB' := hide hb'
          clear HO HB HS ho' hb' hs' HX HY HL
          go_wp2_with fail
          exact ⟨⟨c + 1, by omega, by congr 1; omega, HO'.out, HB'.out⟩, by simp [intOf]; omega⟩
        · obtain rfl : c = 2 * a + 1 := by omega
          have hcle : ¬ ((2 * a + 1 : Nat) : Int) - a ≤ a := by omega
          have HO' : Hid (wr.ownsRow w.heap.size 40 2 u5 ((r + 1) * (2 * a + 1)) (ints (fl (offF a d) ((r + 1) * (2 * a + 1) * 2)))) := by
            have := HO.out
            rw [Nat.succ_mul]
            exact this
          clear HO
          go_wp2_with fail
          exact ⟨⟨r + 1, by omega, by congr 1; omega, HO'.out, HB.out⟩, by simp [intOf]; omega⟩
    · obtain rfl : r = 2 * d + 1 := by omega
      have hle : ¬ ((2 * d + 1 : Nat) : Int) - d ≤ d := by omega
      obtain ⟨a', cap', b', rfl, ow, hB⟩ := ow_spots HO.out
      have HW := hide ow
      have HB1 := hide hB
      clear ow hB HO
      go_wp2_with fail
      go_ret
      exact ⟨a', cap', b', rfl, HW.out, HB1.out, HB.out⟩

/-- up, left, right, down -/
def besF : Nat → Int
  | 0 => 0 | 1 => -1 | 2 => -1 | 3 => 0 | 4 => 1 | 5 => 0 | 6 => 0 | 7 => 1 | _ => 0
theorem besF_bd : ∀ j, j < 4 * 2 → -64 ≤ besF j ∧ besF j ≤ 64 := by decide

end Go.Proofs.Ytipkfaajngabmaa
