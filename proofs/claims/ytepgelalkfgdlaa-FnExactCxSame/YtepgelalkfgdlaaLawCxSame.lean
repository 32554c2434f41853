/- The law FnExactCxSame, walked. -/
import Derived.Test.YtepgelalkfgdlaaSameI
namespace Go.Proofs.Ytepgelalkfgdlaa
open Ieee Go.RowKit Fl
attribute [local go_sem] run_store_float alloc_drewN setCell_drewN shape?_drewN

set_option maxHeartbeats 2000000 in
theorem fnExactCxSame_walk (a b c d : Nat) (ha' : (Lit.float .f64 a).wf = true) (hb' : (Lit.float .f64 b).wf = true) (hc' : (Lit.float .f64 c).wf = true) (hd' : (Lit.float .f64 d).wf = true) (w : World) :
    Calls Try.prog 17 #[cx a b, cx c d] w fun e w' => e = .returned (.bool true) ∧ Below w.heap.size w w' := by
  have H0 := Held.start a b c d w
  have s1 := same_spec a b c d
  have s2 := same_impl a b c d (wf_lt ha') (wf_lt hb') (wf_lt hc') (wf_lt hd')
  clear ha' hb' hc' hd'
  generalize (eqv a c && eqv b d) = q at *
  go_enter Try.func17, Try.ntmps17
  go_upto_region 1 with fail
  go_cut [5] (fun s5 wc => s5 = .bool q ∧ Below (w.heap.size + 2) ((w.alloc (cell54 a b)).alloc (cell54 c d)) wc)
  case first =>
    go_region_with (first | (go_at_call 43; refine (toCx_exact _ _ _).mono ?_; rintro e w1 ⟨rfl, rfl⟩) | (go_at_call 33; refine (s1 _).mono ?_; rintro e w1 ⟨rfl, hb⟩))
    all_goals
      go_wp2_with fail
      go_meet
      refine ⟨rfl, ?_⟩
      refine Below.trans ?_ (hb.mono (by simp; try omega))
      first | exact Below.drew (by go_grown) | go_grown
  case rest =>
    obtain ⟨rfl, B1⟩ := hcut
    clear H0 s1
    obtain ⟨k1, k2, k3, k4⟩ := Held.of_below B1
    have zz := B1.size
    simp at zz
    have z0 : w.heap.size < wc.heap.size := by omega
    have z1 : w.heap.size + 1 < wc.heap.size := by omega
    clear zz
    go_upto_region 2 with fail
    go_cut [6] (fun s6 wd => s6 = .bool q ∧ Below wc.heap.size wc wd)
    case first =>
      clear B1
      go_region_held (fun w' => w'.cell? ⟨w.heap.size, 0, none⟩ = some (.float .f64 a) ∧ w'.cell? ⟨w.heap.size, 1, none⟩ = some (.float .f64 b) ∧ w'.cell? ⟨w.heap.size + 1, 0, none⟩ = some (.float .f64 c) ∧ w'.cell? ⟨w.heap.size + 1, 1, none⟩ = some (.float .f64 d)) ((show Held w.heap.size a b c d _; repeat (first | with_reducible assumption | exact ⟨k1, k2, k3, k4⟩ | with_reducible apply Held.drew | with_reducible apply Held.drewN | with_reducible apply Held.alloc | (with_reducible refine Held.below ?_ hb))))
        (first | (go_at_call 43; refine (toCx_exact _ _ _).mono ?_; rintro e w1 ⟨rfl, rfl⟩) | (go_at_call 53; refine (s2 _).mono ?_; rintro e w1 ⟨rfl, hb⟩))
      all_goals
        go_wp2_with fail
        go_meet
        refine ⟨rfl, ?_⟩
        refine Below.trans ?_ (hb.mono (by simp; try omega))
        first | exact Below.drew (by go_grown) | go_grown
    case rest =>
      obtain ⟨rfl, B2⟩ := hcut
      clear s2 k1 k2 k3 k4
      have q0 : Below w.heap.size w ((w.alloc (cell54 a b)).alloc (cell54 c d)) := by go_grown
      have q1 := (q0.trans (B1.mono (by omega))).trans (B2.mono (by omega))
      cases q
      all_goals
        go_wp2_with fail
        go_ret
        exact ⟨rfl, q1⟩

end Go.Proofs.Ytepgelalkfgdlaa
