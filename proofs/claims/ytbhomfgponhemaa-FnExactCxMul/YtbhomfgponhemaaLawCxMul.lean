/- The law FnExactCxMul, walked. -/
import Derived.Test.YtbhomfgponhemaaFmu
import Derived.Test.YtbhomfgponhemaaHdc
namespace Go.Proofs.Ytbhomfgponhemaa
open Ieee Go.RowKit
attribute [local go_sem] run_store_float alloc_drewN setCell_drewN shape?_drewN alloc_there

set_option maxHeartbeats 2000000 in
theorem fnExactCxMul_walk (a b c d : Nat) (w : World) :
    Calls Try.prog 4 #[cx a b, cx c d] w fun e w' => e = .returned (.bool true) ∧ Below w.heap.size w w' := by
  have H0 := Held.start a b c d w
  go_enter Try.func4, Try.ntmps4
  go_upto_region 1 with fail
  go_cut [5] (fun s5 wc => ∃ blk r s, s5 = .pointer (some ⟨blk, 0, none⟩) ∧ w.heap.size + 2 ≤ blk ∧ blk < wc.heap.size ∧ wc.cell? ⟨blk, 0, none⟩ = some (.float .f64 r) ∧ wc.cell? ⟨blk, 1, none⟩ = some (.float .f64 s) ∧ MulRe a b c d r ∧ MulIm a b c d s ∧ Below (w.heap.size + 2) ((w.alloc (cellL a b)).alloc (cellL c d)) wc)
  case first =>
    go_region_held (fun w' => w'.cell? ⟨w.heap.size, 0, none⟩ = some (.float .f64 a) ∧ w'.cell? ⟨w.heap.size, 1, none⟩ = some (.float .f64 b) ∧ w'.cell? ⟨w.heap.size + 1, 0, none⟩ = some (.float .f64 c) ∧ w'.cell? ⟨w.heap.size + 1, 1, none⟩ = some (.float .f64 d)) (first | assumption | (simp [go_sem]; done) | go_keep)
      (first | (go_at_call 12; refine (toCx_exact _ _ _).mono ?_; rintro e w1 ⟨rfl, rfl⟩) | (go_at_call 11; refine (mul_spec _ _ _ _ _).mono ?_; rintro e w1 ⟨r, s, n, rfl, rfl, hr, hs⟩))
    all_goals
      go_wp2_with fail
      go_meet
      refine ⟨_, r, s, rfl, by omega, by simp; try omega, by simp [go_sem], by simp [go_sem], hr, hs, below_drewN (by go_grown) _⟩
  case rest =>
    obtain ⟨blk, r, s, rfl, hb1, hb2, c1, c2, hr, hs, B1⟩ := hcut
    have hz : w.heap.size + 2 ≤ wc.heap.size := by omega
    clear H0
    have H0 := Held.of_below B1
    obtain ⟨k1, k2, k3, k4⟩ := H0
    have H0 := Held.of_below B1
    go_upto_region 2 with fail
    go_cut [6] (fun s6 wd => ∃ blk' r' s', s6 = .pointer (some ⟨blk', 0, none⟩) ∧ wd.cell? ⟨blk', 0, none⟩ = some (.float .f64 r') ∧ wd.cell? ⟨blk', 1, none⟩ = some (.float .f64 s') ∧ wd.cell? ⟨blk, 0, none⟩ = some (.float .f64 r) ∧ wd.cell? ⟨blk, 1, none⟩ = some (.float .f64 s) ∧ MulRe a b c d r' ∧ MulIm a b c d s' ∧ Below wc.heap.size wc wd)
    case first =>
      clear B1 hb1 hr hs
      go_region_held (fun w' => w'.cell? ⟨w.heap.size, 0, none⟩ = some (.float .f64 a) ∧ w'.cell? ⟨w.heap.size, 1, none⟩ = some (.float .f64 b) ∧ w'.cell? ⟨w.heap.size + 1, 0, none⟩ = some (.float .f64 c) ∧ w'.cell? ⟨w.heap.size + 1, 1, none⟩ = some (.float .f64 d)) ((show Held w.heap.size a b c d _; repeat (first | with_reducible assumption | with_reducible apply Held.drew | with_reducible apply Held.drewN | with_reducible apply Held.alloc)))
        (first | (go_at_call 12; refine (toCx_exact _ _ _).mono ?_; rintro e w1 ⟨rfl, rfl⟩) | (go_at_call 7; refine (mul_impl _ _ _ _ _).mono ?_; rintro e w1 ⟨r', s', n, rfl, rfl, hr, hs⟩))
      all_goals
        go_wp2_with fail
        go_meet
        exact ⟨_, r', s', rfl, by simp [go_sem], by simp [go_sem], (Below.cell (B := wc.heap.size) (p := ⟨blk, 0, none⟩) (below_drewN (by go_grown) _) hb2).trans c1, (Below.cell (B := wc.heap.size) (p := ⟨blk, 1, none⟩) (below_drewN (by go_grown) _) hb2).trans c2, hr, hs, below_drewN (by go_grown) _⟩
    case rest =>
      obtain ⟨blk', r', s', rfl, d1, d2, d3, d4, hr', hs', B2⟩ := hcut
      have e1 := hr'.same hr
      have e2 := hs'.same hs
      clear hr hs hr' hs' c1 c2 k1 k2 k3 k4 H0
      rename_i wd
      go_wp2_with fail
      refine (eqCx_any _ _ _ _ e1 e2 _).mono ?_
      rintro e w5 ⟨rfl, hb5⟩
      go_wp2_with fail
      go_ret
      have q0 : Below w.heap.size w ((w.alloc (cellL a b)).alloc (cellL c d)) := by go_grown
      have q2 := B2.size
      refine ⟨rfl, (q0.trans (B1.mono (by omega))).trans ((B2.mono (by omega)).trans (hb5.mono (by omega)))⟩

end Go.Proofs.Ytbhomfgponhemaa
