/- An archive is damaged. -/
import Derived.Test.YtcdpnofjahdieaaAgd
import Derived.Test.YtcdpnofjahdieaaAgc
import Derived.Test.YtcdpnofjahdieaaBxs
namespace Go.Proofs.Ytcdpnofjahdieaa
open Go.RowKit

set_option maxRecDepth 100000 in
set_option maxHeartbeats 8000000 in
theorem implDamage_any (bI nI cI : Nat) (I : Nat → SEntry) (bL nL cL : Nat) (L : Nat → SCopy) (bR nR cR : Nat) (R : Nat → SCopy) (bA nA cA : Nat) (A : Nat → SNote) (clock : Int) (hz : SzA nI I nL L nR R nA A) (right : Bool) (at_ : Int) (body : ByteArray) (hbody : body.size ≤ 1048576) (w : World) (h : RdA bI nI I bL nL L bR nR R bA nA A w) :
    Calls Try.prog 7 #[vArch (some ⟨bI, 0, none⟩) nI cI (some ⟨bL, 0, none⟩) nL cL (some ⟨bR, 0, none⟩) nR cR (some ⟨bA, 0, none⟩) nA cA clock, .bool right, .int .i64 at_, .string body] w (DmR (archB I nI L nL R nR A nA clock && decide (body.size ≤ 2048)) right nI I nL L nR R nA A clock at_ body w) := by
  have HS0 := hide (((St.start w).box [.slice (some ⟨bI, 0, none⟩) nI cI, .slice (some ⟨bL, 0, none⟩) nL cL, .slice (some ⟨bR, 0, none⟩) nR cR, .slice (some ⟨bA, 0, none⟩) nA cA, .int .i64 clock] 32).box' [.slice none 0 0, .slice none 0 0, .slice none 0 0, .slice none 0 0, .int .i64 0] 32 (b := w.heap.size + 1) (by simp))
  have HR := hide h
  have HZ := hide hz
  clear h hz
  obtain ⟨ok, hokd⟩ : ∃ ok, ok = (archB I nI L nL R nR A nA clock && decide (body.size ≤ 2048)) := ⟨_, rfl⟩
  rw [← hokd]
  have HOK := hide hokd
  clear hokd
  go_enter Try.func7, Try.ntmps7
  go_upto_region 1 with fail
  generalize (w.alloc (.cells #[.slice (some ⟨bI, 0, none⟩) nI cI, .slice (some ⟨bL, 0, none⟩) nL cL, .slice (some ⟨bR, 0, none⟩) nR cR, .slice (some ⟨bA, 0, none⟩) nA cA, .int .i64 clock] 32)).alloc (.cells #[.slice none 0 0, .slice none 0 0, .slice none 0 0, .slice none 0 0, .int .i64 0] 32) = W at *
  have HS : Hid (St w [(w.heap.size + 1, [.slice none 0 0, .slice none 0 0, .slice none 0 0, .slice none 0 0, .int .i64 0]), (w.heap.size, [.slice (some ⟨bI, 0, none⟩) nI cI, .slice (some ⟨bL, 0, none⟩) nL cL, .slice (some ⟨bR, 0, none⟩) nR cR, .slice (some ⟨bA, 0, none⟩) nA cA, .int .i64 clock])] [] W) := HS0.out
  clear HS0
  have cOK := implArchOk_any (some ⟨bI, 0, none⟩) nI cI I (some ⟨bL, 0, none⟩) nL cL L (some ⟨bR, 0, none⟩) nR cR R (some ⟨bA, 0, none⟩) nA cA A clock HZ.out W (HR.out.below HS.out.below).px
  obtain ⟨i0, i0f⟩ := (HS.out.bxAt 1 rfl) 0 _ rfl
  obtain ⟨i1, i1f⟩ := (HS.out.bxAt 1 rfl) 1 _ rfl
  obtain ⟨i2, i2f⟩ := (HS.out.bxAt 1 rfl) 2 _ rfl
  obtain ⟨i3, i3f⟩ := (HS.out.bxAt 1 rfl) 3 _ rfl
  obtain ⟨i4, i4f⟩ := (HS.out.bxAt 1 rfl) 4 _ rfl
  go_wp2_with fail
  refine cOK.mono ?_
  rintro e w1 ⟨rfl, hb⟩
  have HS1 := hide (HS.out.next hb)
  clear cOK hb HS i0 i0f i1 i1f i2 i2f i3 i3f i4 i4f
  cases hok : archB I nI L nL R nR A nA clock with
  | false =>
    obtain rfl : ok = false := by rw [HOK.out, hok]; rfl
    clear HOK
    have HF : Hid (DmR false right nI I nL L nR R nA A clock at_ body w (.returned (vArch none 0 0 none 0 0 none 0 0 none 0 0 0)) (((((w1.setCell ⟨w.heap.size + 1, 0, none⟩ (.slice none 0 0)).setCell ⟨w.heap.size + 1, 1, none⟩ (.slice none 0 0)).setCell ⟨w.heap.size + 1, 2, none⟩ (.slice none 0 0)).setCell ⟨w.heap.size + 1, 3, none⟩ (.slice none 0 0)).setCell ⟨w.heap.size + 1, 4, none⟩ (.int .i64 0))) :=
      ⟨none, 0, 0, none, 0, 0, none, 0, 0, none, 0, 0, rfl, St.four (below_set5 HS1.out.below (by omega) _ _ _ _ _) (.inl rfl) (.inl rfl) (.inl rfl) (.inl rfl) (.inl rfl) (.inl rfl) (.inl rfl) (.inl rfl) (fun h => absurd rfl h) (fun h => absurd rfl h) (fun h => absurd rfl h) (fun h => absurd rfl h) (fun h => absurd rfl h) (fun h => absurd rfl h)⟩
    obtain ⟨q0, q0f⟩ := (HS1.out.bxAt 0 rfl) 0 _ rfl
    obtain ⟨q1, q1f⟩ := (HS1.out.bxAt 0 rfl) 1 _ rfl
    obtain ⟨q2, q2f⟩ := (HS1.out.bxAt 0 rfl) 2 _ rfl
    obtain ⟨q3, q3f⟩ := (HS1.out.bxAt 0 rfl) 3 _ rfl
    obtain ⟨q4, q4f⟩ := (HS1.out.bxAt 0 rfl) 4 _ rfl
    clear HS1
    go_wp2_with fail
    exact bodyPost_ret (v := vArch none 0 0 none 0 0 none 0 0 none 0 0 0) (by simp [results, Try.results7, go_sem, q0, q1, q2, q3, q4]) rfl HF.out
  | true =>
    by_cases hbs : body.size ≤ 2048
    case neg =>
      obtain rfl : ok = false := by rw [HOK.out]; simp [hbs]
      clear HOK
      have hbi : (2048 : Int) < (body.size : Int) := by omega
      have HF : Hid (DmR false right nI I nL L nR R nA A clock at_ body w (.returned (vArch none 0 0 none 0 0 none 0 0 none 0 0 0)) (((((w1.setCell ⟨w.heap.size + 1, 0, none⟩ (.slice none 0 0)).setCell ⟨w.heap.size + 1, 1, none⟩ (.slice none 0 0)).setCell ⟨w.heap.size + 1, 2, none⟩ (.slice none 0 0)).setCell ⟨w.heap.size + 1, 3, none⟩ (.slice none 0 0)).setCell ⟨w.heap.size + 1, 4, none⟩ (.int .i64 0))) :=
        ⟨none, 0, 0, none, 0, 0, none, 0, 0, none, 0, 0, rfl, St.four (below_set5 HS1.out.below (by omega) _ _ _ _ _) (.inl rfl) (.inl rfl) (.inl rfl) (.inl rfl) (.inl rfl) (.inl rfl) (.inl rfl) (.inl rfl) (fun h => absurd rfl h) (fun h => absurd rfl h) (fun h => absurd rfl h) (fun h => absurd rfl h) (fun h => absurd rfl h) (fun h => absurd rfl h)⟩
      obtain ⟨q0, q0f⟩ := (HS1.out.bxAt 0 rfl) 0 _ rfl
      obtain ⟨q1, q1f⟩ := (HS1.out.bxAt 0 rfl) 1 _ rfl
      obtain ⟨q2, q2f⟩ := (HS1.out.bxAt 0 rfl) 2 _ rfl
      obtain ⟨q3, q3f⟩ := (HS1.out.bxAt 0 rfl) 3 _ rfl
      obtain ⟨q4, q4f⟩ := (HS1.out.bxAt 0 rfl) 4 _ rfl
      clear HS1
      go_wp2_with fail
      exact bodyPost_ret (v := vArch none 0 0 none 0 0 none 0 0 none 0 0 0) (by simp [results, Try.results7, go_sem, q0, q1, q2, q3, q4]) rfl HF.out
    obtain rfl : ok = true := by rw [HOK.out, hok]; simp [hbs]
    clear HOK
    have hbi : ¬ (2048 : Int) < (body.size : Int) := by omega
    have hl := And.intro HZ.out.ni (And.intro HZ.out.nl (And.intro HZ.out.nr HZ.out.na))
    have cC := copyOfArch_any bI nI cI I bL nL cL L bR nR cR R bA nA cA A clock hl w1 (HR.out.below HS1.out.below)
    obtain ⟨i0, i0f⟩ := (HS1.out.bxAt 1 rfl) 0 _ rfl
    obtain ⟨i1, i1f⟩ := (HS1.out.bxAt 1 rfl) 1 _ rfl
    obtain ⟨i2, i2f⟩ := (HS1.out.bxAt 1 rfl) 2 _ rfl
    obtain ⟨i3, i3f⟩ := (HS1.out.bxAt 1 rfl) 3 _ rfl
    obtain ⟨i4, i4f⟩ := (HS1.out.bxAt 1 rfl) 4 _ rfl
    clear hok
    go_wp2_with fail
    refine cC.mono ?_
    rintro e w2 ⟨aI, cI', dI, aL, cL', dL, aR, cR', dR, aA, cA', dA, rfl, hst⟩
    have HS2 := hide ((HS1.out.join hst).box [.slice aI nI cI', .slice aL nL cL', .slice aR nR cR', .slice aA nA cA', .int .i64 clock] 32)
    clear cC hst HS1 HR i0 i0f i1 i1f i2 i2f i3 i3f i4 i4f
    go_upto_region 4 with fail
    generalize w2.alloc (.cells #[.slice aI nI cI', .slice aL nL cL', .slice aR nR cR', .slice aA nA cA', .int .i64 clock] 32) = w3 at *
    generalize w2.heap.size = X at *
    have HS3 : Hid (St w [(X, [.slice aI nI cI', .slice aL nL cL', .slice aR nR cR', .slice aA nA cA', .int .i64 clock]), (w.heap.size + 1, [.slice none 0 0, .slice none 0 0, .slice none 0 0, .slice none 0 0, .int .i64 0]), (w.heap.size, [.slice (some ⟨bI, 0, none⟩) nI cI, .slice (some ⟨bL, 0, none⟩) nL cL, .slice (some ⟨bR, 0, none⟩) nR cR, .slice (some ⟨bA, 0, none⟩) nA cA, .int .i64 clock])] [(aI, dI, nI * 5, FEntry I), (aL, dL, nL * 4, FCopy L), (aR, dR, nR * 4, FCopy R), (aA, dA, nA * 5, FNote A)] w3) := HS2.out
    clear HS2 hbs hbi
    cases right
    · by_cases hr : 0 ≤ at_ ∧ at_ < (nL : Int)
      · obtain ⟨k, rfl⟩ : ∃ k : Nat, at_ = (k : Int) := ⟨at_.toNat, by omega⟩
        have hk : k < nL := by omega
        have hdm : dmN nL (k : Int) = nL := if_pos hr
        rcases HS3.out.nthO 1 rfl with h0 | ⟨rfl, hrow⟩
        · omega
        have HS4 := hide (HS3.out.putV (O1 := [(aI, dI, nI * 5, FEntry I)]) (by omega) ((Kept.refl dL w3).setCell (a := ⟨dL, k * 4 + 2, none⟩) rfl (.string body)) (.inr ⟨rfl, RowV.putV (F' := FCopy (dmC L k body)) hrow (.string body) (fun q _ => dmF L k body q)⟩))
        have cD := damaged_in dL nL cL' L k hk body hl.2.1 w3 hrow
        obtain ⟨i0, i0f⟩ := (HS3.out.bxAt 0 rfl) 0 _ rfl
        obtain ⟨i1, i1f⟩ := (HS3.out.bxAt 0 rfl) 1 _ rfl
        obtain ⟨i2, i2f⟩ := (HS3.out.bxAt 0 rfl) 2 _ rfl
        obtain ⟨i3, i3f⟩ := (HS3.out.bxAt 0 rfl) 3 _ rfl
        obtain ⟨i4, i4f⟩ := (HS3.out.bxAt 0 rfl) 4 _ rfl
        clear hrow HS3
        go_wp2_with fail
        refine cD.mono ?_
        rintro e w4' ⟨rfl, rfl⟩
        have HS5 := hide (St.fill (L1 := []) HS4.out 1 (.slice (some ⟨dL, 0, none⟩) nL cL'))
        clear cD i0 i0f i1 i1f i2 i2f i3 i3f i4 i4f
        obtain ⟨i0, i0f⟩ := (HS4.out.bxAt 0 rfl) 0 _ rfl
        obtain ⟨i1, i1f⟩ := (HS4.out.bxAt 0 rfl) 1 _ rfl
        obtain ⟨i2, i2f⟩ := (HS4.out.bxAt 0 rfl) 2 _ rfl
        obtain ⟨i3, i3f⟩ := (HS4.out.bxAt 0 rfl) 3 _ rfl
        obtain ⟨i4, i4f⟩ := (HS4.out.bxAt 0 rfl) 4 _ rfl
        go_upto_region 7 with fail
        clear HS4 i0 i0f i1 i1f i2 i2f i3 i3f i4 i4f
        generalize (w3.setCell ⟨dL, k * 4 + 2, none⟩ (.string body)).setCell ⟨X, 1, none⟩ (.slice (some ⟨dL, 0, none⟩) nL cL') = w5 at *
        have HE := hide (((((St.fill (L1 := [(X, [.slice aI nI cI', .slice (some ⟨dL, 0, none⟩) nL cL', .slice aR nR cR', .slice aA nA cA', .int .i64 clock])]) HS5.out 0 (.slice aI nI cI')).fill (L1 := [(X, [.slice aI nI cI', .slice (some ⟨dL, 0, none⟩) nL cL', .slice aR nR cR', .slice aA nA cA', .int .i64 clock])]) 1 (.slice (some ⟨dL, 0, none⟩) nL cL')).fill (L1 := [(X, [.slice aI nI cI', .slice (some ⟨dL, 0, none⟩) nL cL', .slice aR nR cR', .slice aA nA cA', .int .i64 clock])]) 2 (.slice aR nR cR')).fill (L1 := [(X, [.slice aI nI cI', .slice (some ⟨dL, 0, none⟩) nL cL', .slice aR nR cR', .slice aA nA cA', .int .i64 clock])]) 3 (.slice aA nA cA')).fill (L1 := [(X, [.slice aI nI cI', .slice (some ⟨dL, 0, none⟩) nL cL', .slice aR nR cR', .slice aA nA cA', .int .i64 clock])]) 4 (.int .i64 clock))
        obtain ⟨i0, i0f⟩ := (HS5.out.bxAt 0 rfl) 0 _ rfl
        obtain ⟨i1, i1f⟩ := (HS5.out.bxAt 0 rfl) 1 _ rfl
        obtain ⟨i2, i2f⟩ := (HS5.out.bxAt 0 rfl) 2 _ rfl
        obtain ⟨i3, i3f⟩ := (HS5.out.bxAt 0 rfl) 3 _ rfl
        obtain ⟨i4, i4f⟩ := (HS5.out.bxAt 0 rfl) 4 _ rfl
        obtain ⟨q0, q0f⟩ := (HS5.out.bxAt 1 rfl) 0 _ rfl
        obtain ⟨q1, q1f⟩ := (HS5.out.bxAt 1 rfl) 1 _ rfl
        obtain ⟨q2, q2f⟩ := (HS5.out.bxAt 1 rfl) 2 _ rfl
        obtain ⟨q3, q3f⟩ := (HS5.out.bxAt 1 rfl) 3 _ rfl
        obtain ⟨q4, q4f⟩ := (HS5.out.bxAt 1 rfl) 4 _ rfl
        have HF : Hid (DmR true false nI I nL L nR R nA A clock (k : Int) body w (.returned (vArch aI nI cI' (some ⟨dL, 0, none⟩) nL cL' aR nR cR' aA nA cA' clock)) (((((w5.setCell ⟨w.heap.size + 1, 0, none⟩ (.slice aI nI cI')).setCell ⟨w.heap.size + 1, 1, none⟩ (.slice (some ⟨dL, 0, none⟩) nL cL')).setCell ⟨w.heap.size + 1, 2, none⟩ (.slice aR nR cR')).setCell ⟨w.heap.size + 1, 3, none⟩ (.slice aA nA cA')).setCell ⟨w.heap.size + 1, 4, none⟩ (.int .i64 clock))) := by
          have hs := HE.out.sub (List.nil_sublist _) (List.Sublist.refl _)
          unfold DmR
          simp only [if_true, if_false, Bool.false_eq_true, hdm, Int.toNat_natCast]
          exact ⟨_, _, _, _, _, _, _, _, _, _, _, _, rfl, hs⟩
        clear HE HS5 hdm
        go_wp2_with fail
        exact bodyPost_ret (v := vArch aI nI cI' (some ⟨dL, 0, none⟩) nL cL' aR nR cR' aA nA cA' clock) (by simp [results, Try.results7, go_sem, q0, q1, q2, q3, q4]) rfl HF.out
      · have hdm : dmN nL at_ = 0 := if_neg hr
        have HS4 := hide (HS3.out.none_ (O1 := [(aI, dI, nI * 5, FEntry I)]) none (FCopy (dmC L at_.toNat body)) 0)
        have cD := damaged_out aL nL cL' at_ hr body hl.2.1 w3
        obtain ⟨i0, i0f⟩ := (HS3.out.bxAt 0 rfl) 0 _ rfl
        obtain ⟨i1, i1f⟩ := (HS3.out.bxAt 0 rfl) 1 _ rfl
        obtain ⟨i2, i2f⟩ := (HS3.out.bxAt 0 rfl) 2 _ rfl
        obtain ⟨i3, i3f⟩ := (HS3.out.bxAt 0 rfl) 3 _ rfl
        obtain ⟨i4, i4f⟩ := (HS3.out.bxAt 0 rfl) 4 _ rfl
        clear HS3
        go_wp2_with fail
        refine cD.mono ?_
        rintro e w4' ⟨rfl, rfl⟩
        have HS5 := hide (St.fill (L1 := []) HS4.out 1 (.slice none 0 0))
        clear cD i0 i0f i1 i1f i2 i2f i3 i3f i4 i4f
        obtain ⟨i0, i0f⟩ := (HS4.out.bxAt 0 rfl) 0 _ rfl
        obtain ⟨i1, i1f⟩ := (HS4.out.bxAt 0 rfl) 1 _ rfl
        obtain ⟨i2, i2f⟩ := (HS4.out.bxAt 0 rfl) 2 _ rfl
        obtain ⟨i3, i3f⟩ := (HS4.out.bxAt 0 rfl) 3 _ rfl
        obtain ⟨i4, i4f⟩ := (HS4.out.bxAt 0 rfl) 4 _ rfl
        go_upto_region 7 with fail
        clear HS4 i0 i0f i1 i1f i2 i2f i3 i3f i4 i4f
        generalize hw5 : World.setCell _ ⟨X, 1, none⟩ (.slice none 0 0) = w5 at *
        clear hw5
        have HE := hide (((((St.fill (L1 := [(X, [.slice aI nI cI', .slice none 0 0, .slice aR nR cR', .slice aA nA cA', .int .i64 clock])]) HS5.out 0 (.slice aI nI cI')).fill (L1 := [(X, [.slice aI nI cI', .slice none 0 0, .slice aR nR cR', .slice aA nA cA', .int .i64 clock])]) 1 (.slice none 0 0)).fill (L1 := [(X, [.slice aI nI cI', .slice none 0 0, .slice aR nR cR', .slice aA nA cA', .int .i64 clock])]) 2 (.slice aR nR cR')).fill (L1 := [(X, [.slice aI nI cI', .slice none 0 0, .slice aR nR cR', .slice aA nA cA', .int .i64 clock])]) 3 (.slice aA nA cA')).fill (L1 := [(X, [.slice aI nI cI', .slice none 0 0, .slice aR nR cR', .slice aA nA cA', .int .i64 clock])]) 4 (.int .i64 clock))
        obtain ⟨i0, i0f⟩ := (HS5.out.bxAt 0 rfl) 0 _ rfl
        obtain ⟨i1, i1f⟩ := (HS5.out.bxAt 0 rfl) 1 _ rfl
        obtain ⟨i2, i2f⟩ := (HS5.out.bxAt 0 rfl) 2 _ rfl
        obtain ⟨i3, i3f⟩ := (HS5.out.bxAt 0 rfl) 3 _ rfl
        obtain ⟨i4, i4f⟩ := (HS5.out.bxAt 0 rfl) 4 _ rfl
        obtain ⟨q0, q0f⟩ := (HS5.out.bxAt 1 rfl) 0 _ rfl
        obtain ⟨q1, q1f⟩ := (HS5.out.bxAt 1 rfl) 1 _ rfl
        obtain ⟨q2, q2f⟩ := (HS5.out.bxAt 1 rfl) 2 _ rfl
        obtain ⟨q3, q3f⟩ := (HS5.out.bxAt 1 rfl) 3 _ rfl
        obtain ⟨q4, q4f⟩ := (HS5.out.bxAt 1 rfl) 4 _ rfl
        have HF : Hid (DmR true false nI I nL L nR R nA A clock at_ body w (.returned (vArch aI nI cI' none 0 0 aR nR cR' aA nA cA' clock)) (((((w5.setCell ⟨w.heap.size + 1, 0, none⟩ (.slice aI nI cI')).setCell ⟨w.heap.size + 1, 1, none⟩ (.slice none 0 0)).setCell ⟨w.heap.size + 1, 2, none⟩ (.slice aR nR cR')).setCell ⟨w.heap.size + 1, 3, none⟩ (.slice aA nA cA')).setCell ⟨w.heap.size + 1, 4, none⟩ (.int .i64 clock))) := by
          have hs := HE.out.sub (List.nil_sublist _) (List.Sublist.refl _)
          unfold DmR
          simp only [if_true, if_false, Bool.false_eq_true, hdm]
          exact ⟨_, _, _, _, _, _, _, _, _, _, _, _, rfl, hs⟩
        clear HE HS5 hdm
        go_wp2_with fail
        exact bodyPost_ret (v := vArch aI nI cI' none 0 0 aR nR cR' aA nA cA' clock) (by simp [results, Try.results7, go_sem, q0, q1, q2, q3, q4]) rfl HF.out
    · by_cases hr : 0 ≤ at_ ∧ at_ < (nR : Int)
      · obtain ⟨k, rfl⟩ : ∃ k : Nat, at_ = (k : Int) := ⟨at_.toNat, by omega⟩
        have hk : k < nR := by omega
        have hdm : dmN nR (k : Int) = nR := if_pos hr
        rcases HS3.out.nthO 2 rfl with h0 | ⟨rfl, hrow⟩
        · omega
        have HS4 := hide (HS3.out.putV (O1 := [(aI, dI, nI * 5, FEntry I), (aL, dL, nL * 4, FCopy L)]) (by omega) ((Kept.refl dR w3).setCell (a := ⟨dR, k * 4 + 2, none⟩) rfl (.string body)) (.inr ⟨rfl, RowV.putV (F' := FCopy (dmC R k body)) hrow (.string body) (fun q _ => dmF R k body q)⟩))
        have cD := damaged_in dR nR cR' R k hk body hl.2.2.1 w3 hrow
        obtain ⟨i0, i0f⟩ := (HS3.out.bxAt 0 rfl) 0 _ rfl
        obtain ⟨i1, i1f⟩ := (HS3.out.bxAt 0 rfl) 1 _ rfl
        obtain ⟨i2, i2f⟩ := (HS3.out.bxAt 0 rfl) 2 _ rfl
        obtain ⟨i3, i3f⟩ := (HS3.out.bxAt 0 rfl) 3 _ rfl
        obtain ⟨i4, i4f⟩ := (HS3.out.bxAt 0 rfl) 4 _ rfl
        clear hrow HS3
        go_wp2_with fail
        refine cD.mono ?_
        rintro e w4' ⟨rfl, rfl⟩
        have HS5 := hide (St.fill (L1 := []) HS4.out 2 (.slice (some ⟨dR, 0, none⟩) nR cR'))
        clear cD i0 i0f i1 i1f i2 i2f i3 i3f i4 i4f
        obtain ⟨i0, i0f⟩ := (HS4.out.bxAt 0 rfl) 0 _ rfl
        obtain ⟨i1, i1f⟩ := (HS4.out.bxAt 0 rfl) 1 _ rfl
        obtain ⟨i2, i2f⟩ := (HS4.out.bxAt 0 rfl) 2 _ rfl
        obtain ⟨i3, i3f⟩ := (HS4.out.bxAt 0 rfl) 3 _ rfl
        obtain ⟨i4, i4f⟩ := (HS4.out.bxAt 0 rfl) 4 _ rfl
        go_upto_region 7 with fail
        clear HS4 i0 i0f i1 i1f i2 i2f i3 i3f i4 i4f
        generalize (w3.setCell ⟨dR, k * 4 + 2, none⟩ (.string body)).setCell ⟨X, 2, none⟩ (.slice (some ⟨dR, 0, none⟩) nR cR') = w5 at *
        have HE := hide (((((St.fill (L1 := [(X, [.slice aI nI cI', .slice aL nL cL', .slice (some ⟨dR, 0, none⟩) nR cR', .slice aA nA cA', .int .i64 clock])]) HS5.out 0 (.slice aI nI cI')).fill (L1 := [(X, [.slice aI nI cI', .slice aL nL cL', .slice (some ⟨dR, 0, none⟩) nR cR', .slice aA nA cA', .int .i64 clock])]) 1 (.slice aL nL cL')).fill (L1 := [(X, [.slice aI nI cI', .slice aL nL cL', .slice (some ⟨dR, 0, none⟩) nR cR', .slice aA nA cA', .int .i64 clock])]) 2 (.slice (some ⟨dR, 0, none⟩) nR cR')).fill (L1 := [(X, [.slice aI nI cI', .slice aL nL cL', .slice (some ⟨dR, 0, none⟩) nR cR', .slice aA nA cA', .int .i64 clock])]) 3 (.slice aA nA cA')).fill (L1 := [(X, [.slice aI nI cI', .slice aL nL cL', .slice (some ⟨dR, 0, none⟩) nR cR', .slice aA nA cA', .int .i64 clock])]) 4 (.int .i64 clock))
        obtain ⟨i0, i0f⟩ := (HS5.out.bxAt 0 rfl) 0 _ rfl
        obtain ⟨i1, i1f⟩ := (HS5.out.bxAt 0 rfl) 1 _ rfl
        obtain ⟨i2, i2f⟩ := (HS5.out.bxAt 0 rfl) 2 _ rfl
        obtain ⟨i3, i3f⟩ := (HS5.out.bxAt 0 rfl) 3 _ rfl
        obtain ⟨i4, i4f⟩ := (HS5.out.bxAt 0 rfl) 4 _ rfl
        obtain ⟨q0, q0f⟩ := (HS5.out.bxAt 1 rfl) 0 _ rfl
        obtain ⟨q1, q1f⟩ := (HS5.out.bxAt 1 rfl) 1 _ rfl
        obtain ⟨q2, q2f⟩ := (HS5.out.bxAt 1 rfl) 2 _ rfl
        obtain ⟨q3, q3f⟩ := (HS5.out.bxAt 1 rfl) 3 _ rfl
        obtain ⟨q4, q4f⟩ := (HS5.out.bxAt 1 rfl) 4 _ rfl
        have HF : Hid (DmR true true nI I nL L nR R nA A clock (k : Int) body w (.returned (vArch aI nI cI' aL nL cL' (some ⟨dR, 0, none⟩) nR cR' aA nA cA' clock)) (((((w5.setCell ⟨w.heap.size + 1, 0, none⟩ (.slice aI nI cI')).setCell ⟨w.heap.size + 1, 1, none⟩ (.slice aL nL cL')).setCell ⟨w.heap.size + 1, 2, none⟩ (.slice (some ⟨dR, 0, none⟩) nR cR')).setCell ⟨w.heap.size + 1, 3, none⟩ (.slice aA nA cA')).setCell ⟨w.heap.size + 1, 4, none⟩ (.int .i64 clock))) := by
          have hs := HE.out.sub (List.nil_sublist _) (List.Sublist.refl _)
          unfold DmR
          simp only [if_true, hdm, Int.toNat_natCast]
          exact ⟨_, _, _, _, _, _, _, _, _, _, _, _, rfl, hs⟩
        clear HE HS5 hdm
        go_wp2_with fail
        exact bodyPost_ret (v := vArch aI nI cI' aL nL cL' (some ⟨dR, 0, none⟩) nR cR' aA nA cA' clock) (by simp [results, Try.results7, go_sem, q0, q1, q2, q3, q4]) rfl HF.out
      · have hdm : dmN nR at_ = 0 := if_neg hr
        have HS4 := hide (HS3.out.none_ (O1 := [(aI, dI, nI * 5, FEntry I), (aL, dL, nL * 4, FCopy L)]) none (FCopy (dmC R at_.toNat body)) 0)
        have cD := damaged_out aR nR cR' at_ hr body hl.2.2.1 w3
        obtain ⟨i0, i0f⟩ := (HS3.out.bxAt 0 rfl) 0 _ rfl
        obtain ⟨i1, i1f⟩ := (HS3.out.bxAt 0 rfl) 1 _ rfl
        obtain ⟨i2, i2f⟩ := (HS3.out.bxAt 0 rfl) 2 _ rfl
        obtain ⟨i3, i3f⟩ := (HS3.out.bxAt 0 rfl) 3 _ rfl
        obtain ⟨i4, i4f⟩ := (HS3.out.bxAt 0 rfl) 4 _ rfl
        clear HS3
        go_wp2_with fail
        refine cD.mono ?_
        rintro e w4' ⟨rfl, rfl⟩
        have HS5 := hide (St.fill (L1 := []) HS4.out 2 (.slice none 0 0))
        clear cD i0 i0f i1 i1f i2 i2f i3 i3f i4 i4f
        obtain ⟨i0, i0f⟩ := (HS4.out.bxAt 0 rfl) 0 _ rfl
        obtain ⟨i1, i1f⟩ := (HS4.out.bxAt 0 rfl) 1 _ rfl
        obtain ⟨i2, i2f⟩ := (HS4.out.bxAt 0 rfl) 2 _ rfl
        obtain ⟨i3, i3f⟩ := (HS4.out.bxAt 0 rfl) 3 _ rfl
        obtain ⟨i4, i4f⟩ := (HS4.out.bxAt 0 rfl) 4 _ rfl
        go_upto_region 7 with fail
        clear HS4 i0 i0f i1 i1f i2 i2f i3 i3f i4 i4f
        generalize hw5 : World.setCell _ ⟨X, 2, none⟩ (.slice none 0 0) = w5 at *
        clear hw5
        have HE := hide (((((St.fill (L1 := [(X, [.slice aI nI cI', .slice aL nL cL', .slice none 0 0, .slice aA nA cA', .int .i64 clock])]) HS5.out 0 (.slice aI nI cI')).fill (L1 := [(X, [.slice aI nI cI', .slice aL nL cL', .slice none 0 0, .slice aA nA cA', .int .i64 clock])]) 1 (.slice aL nL cL')).fill (L1 := [(X, [.slice aI nI cI', .slice aL nL cL', .slice none 0 0, .slice aA nA cA', .int .i64 clock])]) 2 (.slice none 0 0)).fill (L1 := [(X, [.slice aI nI cI', .slice aL nL cL', .slice none 0 0, .slice aA nA cA', .int .i64 clock])]) 3 (.slice aA nA cA')).fill (L1 := [(X, [.slice aI nI cI', .slice aL nL cL', .slice none 0 0, .slice aA nA cA', .int .i64 clock])]) 4 (.int .i64 clock))
        obtain ⟨i0, i0f⟩ := (HS5.out.bxAt 0 rfl) 0 _ rfl
        obtain ⟨i1, i1f⟩ := (HS5.out.bxAt 0 rfl) 1 _ rfl
        obtain ⟨i2, i2f⟩ := (HS5.out.bxAt 0 rfl) 2 _ rfl
        obtain ⟨i3, i3f⟩ := (HS5.out.bxAt 0 rfl) 3 _ rfl
        obtain ⟨i4, i4f⟩ := (HS5.out.bxAt 0 rfl) 4 _ rfl
        obtain ⟨q0, q0f⟩ := (HS5.out.bxAt 1 rfl) 0 _ rfl
        obtain ⟨q1, q1f⟩ := (HS5.out.bxAt 1 rfl) 1 _ rfl
        obtain ⟨q2, q2f⟩ := (HS5.out.bxAt 1 rfl) 2 _ rfl
        obtain ⟨q3, q3f⟩ := (HS5.out.bxAt 1 rfl) 3 _ rfl
        obtain ⟨q4, q4f⟩ := (HS5.out.bxAt 1 rfl) 4 _ rfl
        have HF : Hid (DmR true true nI I nL L nR R nA A clock at_ body w (.returned (vArch aI nI cI' aL nL cL' none 0 0 aA nA cA' clock)) (((((w5.setCell ⟨w.heap.size + 1, 0, none⟩ (.slice aI nI cI')).setCell ⟨w.heap.size + 1, 1, none⟩ (.slice aL nL cL')).setCell ⟨w.heap.size + 1, 2, none⟩ (.slice none 0 0)).setCell ⟨w.heap.size + 1, 3, none⟩ (.slice aA nA cA')).setCell ⟨w.heap.size + 1, 4, none⟩ (.int .i64 clock))) := by
          have hs := HE.out.sub (List.nil_sublist _) (List.Sublist.refl _)
          unfold DmR
          simp only [if_true, hdm]
          exact ⟨_, _, _, _, _, _, _, _, _, _, _, _, rfl, hs⟩
        clear HE HS5 hdm
        go_wp2_with fail
        exact bodyPost_ret (v := vArch aI nI cI' aL nL cL' none 0 0 aA nA cA' clock) (by simp [results, Try.results7, go_sem, q0, q1, q2, q3, q4]) rfl HF.out

end Go.Proofs.Ytcdpnofjahdieaa
