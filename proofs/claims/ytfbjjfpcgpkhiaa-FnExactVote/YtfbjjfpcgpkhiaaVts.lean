/- The specification's votes. -/
import Derived.Test.YtfbjjfpcgpkhiaaVtc
import Derived.Deep.RegionHeld
import Derived.Deep.RegionHeld3
namespace Go.Proofs.Ytfbjjfpcgpkhiaa
open Go.RowKit

/-- the most votes so far -/
def cmF (c : Nat → Int) (v : Nat) : Int := if v = 0 then 0 else c (moB c v)
theorem cm_yes {c : Nat → Int} {v : Nat} (h : cmF c v < c v) : cmF c (v + 1) = c v ∧ moB c (v + 1) = v := by
  rcases Nat.eq_zero_or_pos v with h0 | h0
  · subst h0
    simp [cmF, moB]
  · have : c (moB c v) < c v := by unfold cmF at h; rw [if_neg (by omega)] at h; exact h
    have e : moB c (v + 1) = v := by simp only [moB]; rw [if_pos this]
    unfold cmF
    rw [if_neg (by omega), e]
    exact ⟨rfl, rfl⟩
theorem cm_no {c : Nat → Int} {v : Nat} (hc : 0 ≤ c v) (h : ¬ cmF c v < c v) : cmF c (v + 1) = cmF c v ∧ moB c (v + 1) = moB c v := by
  rcases Nat.eq_zero_or_pos v with h0 | h0
  · subst h0
    have h9 : ¬ (0 : Int) < c 0 := by unfold cmF at h; rw [if_pos rfl] at h; exact h
    have : c 0 = 0 := by omega
    simp [cmF, moB, this]
  · have : ¬ c (moB c v) < c v := by unfold cmF at h; rw [if_neg (by omega)] at h; exact h
    have e : moB c (v + 1) = moB c v := by simp only [moB]; rw [if_neg this]
    unfold cmF
    rw [if_neg (by omega), if_neg (by omega), e]
    exact ⟨rfl, rfl⟩
theorem cm_bd {c : Nat → Int} {M : Int} (hM : 0 ≤ M) (h : ∀ v, 0 ≤ c v ∧ c v ≤ M) (v : Nat) : 0 ≤ cmF c v ∧ cmF c v ≤ M := by
  unfold cmF
  split
  · omega
  · exact h _
theorem updN_start (F : Nat → Int) (k : Nat) : updN (hyb F k) k 0 = hyb F k := by
  funext q
  unfold updN hyb
  by_cases e : q = k
  · subst e; simp
  · rw [if_neg e]

theorem ImR.congr' {W H : Int} {n : Nat} {f g : Nat → Int} {w w' : World} {e : Ending} (h : ImR W H n f w e w') (hg : ∀ q, q < n → f q = g q) : ImR W H n g w e w' := by
  obtain ⟨a0, cap, b, h1, h2, h3, h4⟩ := h
  refine ⟨a0, cap, b, h1, ?_, h3, h4⟩
  rcases h2 with h2 | ⟨h2, h5⟩
  · exact .inl h2
  · exact .inr ⟨h2, h5.congr hg⟩
theorem own_at {w : World} {L : List BoxT} {b b' n : Nat} {f : Nat → Value} {w3 : World} (e : b = b') (h : St w L [(some ⟨b + 1, 0, none⟩, b + 1, n, f)] w3) : St w L [(some ⟨b' + 1, 0, none⟩, b' + 1, n, f)] w3 := by subst e; exact h

set_option maxRecDepth 100000 in
set_option maxHeartbeats 8000000 in
theorem specVote_any (a : Option Addr) (m cap : Nat) (ad : Nat → Option Addr) (ln cp : Nat → Nat) (F : Nat → Nat → Int) (Wv Hv : Nat → Int) (hm : m ≤ 1048576) (hl : ∀ i, i < m → ln i ≤ 1048576) (w : World) (h : PxM a m ad ln cp F Wv Hv w) :
    Calls Try.prog 5 #[.slice a m cap] w (ImR (pkI (atlB m ln F Wv Hv) (Wv 0)) (pkI (atlB m ln F Wv Hv) (Hv 0)) (pkN (atlB m ln F Wv Hv) (ln 0)) (votF m F) w) := by
  have HS0 := hide ((St.start w).box [.int .i64 0, .int .i64 0, .slice none 0 0] 26)
  have HP := hide h
  have HL := hide hl
  clear h hl
  obtain ⟨z0, z1, z2⟩ := HS0.out.im3 0 rfl
  obtain ⟨e0, e1, e2⟩ := HS0.out.fr3 0 rfl
  have HF0 := hide (HS0.out.fill3 (.int .i64 0) (.int .i64 0) (.slice none 0 0))
  by_cases hm1 : m = 0
  · subst hm1
    have hq : atlB 0 ln F Wv Hv = false := by unfold atlB; simp [inB]
    rw [hq]
    clear hq HP HL
    go_enter Try.func5, Try.ntmps5
    go_wp2_with fail
    exact bodyPost_ret (v := im 0 0 none 0 0) (by simp [results, Try.results5, go_sem, z0, z1, z2]) rfl (HS0.out.imN _)
  by_cases hm2 : 15 < m
  · have hq : atlB m ln F Wv Hv = false := by unfold atlB; simp [inB]; omega
    rw [hq]
    have hm3 : (15 : Int) < (m : Int) := by omega
    have hm4 : ((m : Int) == 0) = false := by simp; omega
    clear hq HP HL hm1 hm2
    go_enter Try.func5, Try.ntmps5
    go_wp2_with fail
    exact bodyPost_ret (v := im 0 0 none 0 0) (by simp [results, Try.results5, go_sem, z0, z1, z2]) rfl (HS0.out.imN _)
  have hm3 : ¬ (15 : Int) < (m : Int) := by omega
  have hm4 : ((m : Int) == 0) = false := by simp; omega
  have hin : inB (m : Int) 1 15 = true := by simp [inB]; omega
  have HQ : Hid (atlB m ln F Wv Hv = allG (atl1 ln F Wv Hv) m) := by show _ = _; unfold atlB; rw [hin, Bool.true_and]
  have HM := hide (And.intro hm1 hm2)
  obtain ⟨ba, oa, rfl, -, -, -⟩ := HP.out.at (show 0 < m by omega)
  clear hin z0 z1 z2 e0 e1 e2 hm2 HF0
  go_enter Try.func5, Try.ntmps5
  go_wp2_with fail
  clear hm1 hm3 hm4
  go_loopw [3] (fun i wr => ∃ k : Nat, k ≤ m ∧ i = .int .i64 k ∧ allG (atl1 ln F Wv Hv) k = true ∧ St w [(w.heap.size, [.int .i64 0, .int .i64 0, .slice none 0 0])] [] wr) (fun i _ => m - (intOf i).toNat)
  case atStart => exact ⟨0, by omega, rfl, rfl, HS0.out⟩
  case round =>
    obtain ⟨k, hk, rfl, hA, hS⟩ := hrel
    have HA := hide hA
    have HS := hide hS
    clear hA hS HS0
    by_cases hlt : k < m
    · obtain ⟨b, off, heq, y0, y1, y2⟩ := (HP.out.below HS.out.below).at hlt
      cases heq
      obtain ⟨t0, t1, t2⟩ := (HP.out.below HS.out.below).at0 rfl (by omega)
      have HPk := hide ((HP.out.2 k hlt).below HS.out.below)
      have cA := fun w' h => l9Grey_any (Wv k) (Hv k) 255 (ad k) (ln k) (cp k) (F k) (HL.out k hlt) w' h
      have HF : Hid (∀ p : Bool, (gryB (Wv k) (Hv k) (ln k) (F k) 255 && (decide (Wv k = Wv 0) && decide (Hv k = Hv 0))) = p → atl1 ln F Wv Hv k = p) := fun _ h => h
      have hm0 : (0 : Int) < (m : Int) := by omega
      have hk0 : (k : Int) < (m : Int) := by omega
      obtain ⟨q2, hq2⟩ : ∃ q : Bool, (Wv k != Wv 0) = !q ∧ q = decide (Wv k = Wv 0) := ⟨decide (Wv k = Wv 0), by by_cases h : Wv k = Wv 0 <;> simp [h], rfl⟩
      obtain ⟨q3, hq3⟩ : ∃ q : Bool, (Hv k != Hv 0) = !q ∧ q = decide (Hv k = Hv 0) := ⟨decide (Hv k = Hv 0), by by_cases h : Hv k = Hv 0 <;> simp [h], rfl⟩
      rw [← hq2.2, ← hq3.2] at HF
      have r2 := hq2.1
      have r3 := hq3.1
      clear hq2 hq3
      generalize gryB (Wv k) (Hv k) (ln k) (F k) 255 = q1 at *
      have HY : Hid (q1 = true → q2 = true → q3 = true → allG (atl1 ln F Wv Hv) (k + 1) = true) := fun h1 h2 h3 => allG_up HA.out (HF.out _ (by rw [h1, h2, h3]; rfl))
      have HN : Hid ((q1 && (q2 && q3)) = false → allG (atl1 ln F Wv Hv) m = false) := fun h9 => allG_no k hlt (HF.out _ h9)
      clear HF HA HL
      generalize Wv k = X0 at *
      generalize Hv k = X1 at *
      generalize hX : Wv 0 = Y0 at *
      generalize hY : Hv 0 = Y1 at *
      clear hX hY
      have SK : Nonempty (Up wr) := up_ne wr
      go_upto_region 6 with fail
      have u0 := fun p : Up wr => p.cell y0
      have u1 := fun p : Up wr => p.cell y1
      have u2 := fun p : Up wr => p.cell y2
      have v0 := fun p : Up wr => p.cell t0
      have v1 := fun p : Up wr => p.cell t1
      cases q1 <;> cases q2 <;> cases q3
      all_goals
        refine region_up (by kernel_rfl) (by kernel_rfl) ?_
        repeat (go_big_quiet_step (first
          | exact rfl
          | (go_at_call 14; exact calls_up (cA _ (HPk.out.below (Up.below _))))))
        refine wpQuiet_nil ?_
        intro _ hw2
        obtain ⟨pq, hw3⟩ := hw2
        subst hw3
        have HS2 := hide (HS.out.next pq.below)
        clear u0 u1 u2 v0 v1 SK y0 y1 y2 t0 t1 t2 cA HPk r2 r3 HS
        generalize pq.w = w2 at *
      case true.true.true =>
        have HE := hide (HY.out rfl rfl rfl)
        clear HN HY
        go_wp2_with fail
        exact ⟨⟨k + 1, by omega, rfl, HE.out, HS2.out⟩, by simp [intOf]; omega⟩
      all_goals
        have HE := hide (HN.out rfl)
        clear HN HY
        obtain ⟨z0, z1, z2⟩ := HS2.out.im3 0 rfl
        obtain ⟨e0, e1, e2⟩ := HS2.out.fr3 0 rfl
        have HF2 := hide (HS2.out.fill3 (.int .i64 0) (.int .i64 0) (.slice none 0 0))
        go_wp2_with fail
        refine bodyPost_ret (v := im 0 0 none 0 0) (by simp [results, Try.results5, go_sem, z0, z1, z2]) rfl ?_
        rw [HQ.out, HE.out]
        exact HF2.out.imN _
    · obtain rfl : k = m := by omega
      have hq : atlB k ln F Wv Hv = true := HQ.out.trans HA.out
      have HQT := hide hq
      obtain ⟨hm1, hm2, hnW, hn4, hok, hall⟩ := atl_at hq
      have HALL := hide hall
      have hnew := l2New_any (Wv 0) (Hv 0) (ln 0) hnW.symm hn4
      clear hq hall hok HA HQ HL
      obtain ⟨t0, t1, t2⟩ := (HP.out.below HS.out.below).at0 rfl (by omega)
      go_upto_region 8 with fail
      have HK : Hid (∀ w', Below wr.heap.size wr w' → w'.cell? ⟨ba, oa, none⟩ = some (.int .i64 (Wv 0)) ∧ w'.cell? ⟨ba, oa + 1, none⟩ = some (.int .i64 (Hv 0))) := fun w' hb => ⟨cell_kept hb t0, cell_kept hb t1⟩
      have SK0 := hide (HK.out _ (Below.refl wr.heap.size wr).drew)
      have HSA := hide (HS.out.box [.int .i64 0, .int .i64 0, .slice none 0 0] 26).drew
      have SKA := hide (HK.out _ ((bnew wr (.cells #[.int .i64 0, .int .i64 0, .slice none 0 0] 26)).drew))
      have hm0 : (0 : Int) < (k : Int) := by omega
      go_cut [4] (fun sl wc => ∃ N o, sl = .pointer (some ⟨N, 0, none⟩) ∧ St w [(N, [.int .i64 (Wv 0), .int .i64 (Hv 0), .slice (some ⟨o, 0, none⟩) (ln 0) (ln 0)]), (w.heap.size, [.int .i64 0, .int .i64 0, .slice none 0 0])] [(some ⟨o, 0, none⟩, o, ln 0, fun _ => .int .i64 0)] wc)
      case first =>
        go_region_held (fun (w' : World) => w'.cell? ⟨ba, oa, none⟩ = some (.int .i64 (Wv 0)) ∧ w'.cell? ⟨ba, oa + 1, none⟩ = some (.int .i64 (Hv 0)))
          (first | with_reducible exact SK0.out | with_reducible exact SKA.out | with_reducible exact SK3.out | with_reducible exact SK4.out | with_reducible exact SK5.out)
          (first
          | (go_at_call 15; (with_reducible refine (hnew wr.drew).mono ?_); rintro e w3 ⟨rfl, hr3, hb3, hs3⟩; have HS3 := hide (HS.out.drew.own hb3 hr3.v (.inr (Nat.le_succ _))); have SK3 := hide (HK.out _ (bnext (Below.refl wr.heap.size wr).drew (Nat.le_refl _) hb3)); have SK4 := hide (HK.out _ ((bnext (Below.refl wr.heap.size wr).drew (Nat.le_refl _) hb3).alloc (Nat.le_trans (Nat.le_refl _) hb3.size) (.cells #[.int .i64 0, .int .i64 0, .slice none 0 0] 26))); have HS5 := hide (HS3.out.box [.int .i64 (Wv 0), .int .i64 (Hv 0), .slice (some ⟨wr.heap.size + 1, 0, none⟩) (ln 0) (ln 0)] 26); have SK5 := hide (HK.out _ ((bnext (Below.refl wr.heap.size wr).drew (Nat.le_refl _) hb3).alloc (Nat.le_trans (Nat.le_refl _) hb3.size) (.cells #[.int .i64 (Wv 0), .int .i64 (Hv 0), .slice (some ⟨wr.heap.size + 1, 0, none⟩) (ln 0) (ln 0)] 26))))
          | (go_at_call 15; (with_reducible refine (hnew _).mono ?_); rintro e w3 ⟨rfl, hr3, hb3, hs3⟩; have HS3 := hide (own_at (b' := wr.heap.size + 1) (by simp) (HSA.out.own hb3 hr3.v (.inr (Nat.le_succ _)))); have SK3 := hide (HK.out _ (bnext ((bnew wr (.cells #[.int .i64 0, .int .i64 0, .slice none 0 0] 26)).drew) (by simp) hb3)); obtain ⟨x0, x1, x2⟩ := HS3.out.im3 0 rfl; obtain ⟨y0, y1, y2⟩ := HS3.out.fr3 0 rfl; have HS5 := hide (HS3.out.fill3 (.int .i64 (Wv 0)) (.int .i64 (Hv 0)) (.slice (some ⟨wr.heap.size + 1 + 1, 0, none⟩) (ln 0) (ln 0))); have SK5 := hide (HK.out _ ((((bnext ((bnew wr (.cells #[.int .i64 0, .int .i64 0, .slice none 0 0] 26)).drew) (by simp) hb3).setCell (p := ⟨wr.heap.size, 0, none⟩) (Nat.le_refl _) (.int .i64 (Wv 0))).setCell (p := ⟨wr.heap.size, 1, none⟩) (Nat.le_refl _) (.int .i64 (Hv 0))).setCell (p := ⟨wr.heap.size, 2, none⟩) (Nat.le_refl _) (.slice (some ⟨wr.heap.size + 1 + 1, 0, none⟩) (ln 0) (ln 0))))))
        all_goals
          go_wp2_with fail
          go_meet
          exact ⟨_, _, rfl, HS5.out⟩
      case rest =>
        obtain ⟨N, o, rfl, hS⟩ := hcut
        obtain ⟨w4, hw4⟩ : ∃ w4, w4 = wc := ⟨_, rfl⟩
        rw [← hw4] at hS
        rw [← hw4]
        have HS4 := hide hS
        clear hw4 hS SK0 SKA HSA HS HK hnew t0 t1 t2
        have HHY : Hid (∀ q, updN (hyb (votF k F) q) q 0 = hyb (votF k F) q) := fun q => updN_start _ q
        have HST4 : Hid (St w [(N, [.int .i64 (Wv 0), .int .i64 (Hv 0), .slice (some ⟨o, 0, none⟩) (ln 0) (ln 0)]), (w.heap.size, [.int .i64 0, .int .i64 0, .slice none 0 0])] [(some ⟨o, 0, none⟩, o, ln 0, fun q => .int .i64 (hyb (votF k F) 0 q))] w4) := by
          have e : (fun q => Value.int .i64 (hyb (votF k F) 0 q)) = fun _ => Value.int .i64 0 := by funext q; simp [hyb]
          show St _ _ _ _
          rw [e]
          exact HS4.out
        clear HS4
        go_wp2_with fail
        go_loopw [5, 6, 7, 8, 9] (fun K5 _ _ _ _ wr => ∃ p : Nat, p ≤ ln 0 ∧ K5 = .int .i64 p ∧ St w [(N, [.int .i64 (Wv 0), .int .i64 (Hv 0), .slice (some ⟨o, 0, none⟩) (ln 0) (ln 0)]), (w.heap.size, [.int .i64 0, .int .i64 0, .slice none 0 0])] [(some ⟨o, 0, none⟩, o, ln 0, fun q => .int .i64 (hyb (votF k F) p q))] wr) (fun K5 _ _ _ _ _ => ln 0 - (intOf K5).toNat)
        case atStart => exact ⟨0, by omega, rfl, HST4.out⟩
        case round =>
          obtain ⟨p, hp, rfl, hS⟩ := hrel
          have HS := hide hS
          clear hS HST4
          by_cases hlp : p < ln 0
          · have hc0 : hyb (votF k F) p p = 0 := by simp [hyb]
            have HPix : Hid (∀ j, j < k → ∃ b off, ad j = some ⟨b, off, none⟩ ∧ p < ln j ∧ ln j ≤ 4096) := fun j hj => by
              have h1 := (HALL.out j hj).1
              obtain ⟨b, off, e, -⟩ := (HP.out.2 j hj).at (show p < ln j by omega)
              exact ⟨b, off, e, by omega, by omega⟩
            have HVE : Hid (votF k F p = (moB (hst (fun i => F i p) k) 256 : Nat)) := rfl
            have HC := hide (fun j v => hst_bd (fun i => F i p) j v)
            have HSTP : Hid (∀ j v, hst (fun i => F i p) (j + 1) v = if F j p = (v : Int) then hst (fun i => F i p) j v + 1 else hst (fun i => F i p) j v) := fun j v => rfl
            have HE0 : Hid (updN (hyb (votF k F) p) p ((moB (hst (fun i => F i p) k) 0 : Nat) : Int) = hyb (votF k F) p) := updN_start _ _
            have HS0' : Hid (St w [(N, [.int .i64 (Wv 0), .int .i64 (Hv 0), .slice (some ⟨o, 0, none⟩) (ln 0) (ln 0)]), (w.heap.size, [.int .i64 0, .int .i64 0, .slice none 0 0])] [(some ⟨o, 0, none⟩, o, ln 0, fun q => .int .i64 (updN (hyb (votF k F) p) p ((moB (hst (fun i => F i p) k) 0 : Nat) : Int) q))] wr) := by show St _ _ _ _; rw [HE0.out]; exact HS.out
            obtain ⟨i0, i1, i2⟩ := HS.out.im3 0 rfl
            have hlp' : (p : Int) < (ln 0 : Int) := by omega
            clear HE0 hc0
            go_wp2_with fail
            clear i0 i1 i2 HS
            go_loopw [6, 7, 8, 9] (fun K6 K7 _ _ wr => ∃ v : Nat, v ≤ 256 ∧ K7 = .int .i64 v ∧ K6 = .int .i64 (cmF (hst (fun i => F i p) k) v) ∧ St w [(N, [.int .i64 (Wv 0), .int .i64 (Hv 0), .slice (some ⟨o, 0, none⟩) (ln 0) (ln 0)]), (w.heap.size, [.int .i64 0, .int .i64 0, .slice none 0 0])] [(some ⟨o, 0, none⟩, o, ln 0, fun q => .int .i64 (updN (hyb (votF k F) p) p ((moB (hst (fun i => F i p) k) v : Nat) : Int) q))] wr) (fun _ K7 _ _ _ => 256 - (intOf K7).toNat)
            case atStart => exact ⟨0, by omega, rfl, rfl, HS0'.out⟩
            case round =>
              obtain ⟨v, hv, rfl, rfl, hS⟩ := hrel
              have HS := hide hS
              clear hS HS0'
              by_cases hlv : v < 256
              · obtain ⟨wo, hwo⟩ : ∃ wo, wo = wr := ⟨_, rfl⟩
                subst hwo
                have hv' : (v : Int) ≤ 255 := by omega
                go_wp2_with fail
                go_loopw [8, 9] (fun K8 K9 wr => ∃ j : Nat, j ≤ k ∧ K9 = .int .i64 j ∧ K8 = .int .i64 (hst (fun i => F i p) j v) ∧ wr = wo) (fun _ K9 _ => k - (intOf K9).toNat)
                case atStart => exact ⟨0, by omega, rfl, rfl, rfl⟩
                case round =>
                  obtain ⟨j, hj, rfl, rfl, rfl⟩ := hrel
                  by_cases hlj : j < k
                  · obtain ⟨b, off, heq, y0, y1, y2⟩ := (HP.out.below HS.out.below).at hlj
                    cases heq
                    obtain ⟨bi, oi, hai, hl1, hl2⟩ := HPix.out j hlj
                    obtain ⟨bi', oi', hai', yi⟩ := ((HP.out.2 j hlj).below HS.out.below).at hl1
                    rw [hai] at hai'
                    cases hai'
                    rw [hai] at y2
                    have hbd := HC.out j v
                    have hl3 : (p : Int) < (ln j : Int) := by omega
                    have HX := hide (HSTP.out j v)
                    generalize hst (fun i => F i p) j v = c0 at *
                    clear HC HSTP HPix HVE HP HALL HS hai y0 y1
                    generalize F j p = x at *
                    by_cases hq : x = (v : Int)
                    · have HY : Hid (hst (fun i => F i p) (j + 1) v = c0 + 1) := by show _ = _; rw [HX.out, if_pos hq]
                      have q : (x == (v : Int)) = true := by simp [hq]
                      have HQ' := hide hq
                      clear HX hq
                      go_wp2_with fail
                      go_roundw
                      case rel => exact ⟨j + 1, by omega, by go_num, by rw [HY.out], trivial⟩
                      case measure => simp [intOf]; omega
                    · have HY : Hid (hst (fun i => F i p) (j + 1) v = c0) := by show _ = _; rw [HX.out, if_neg hq]
                      have q : (x == (v : Int)) = false := by simp [hq]
                      clear HX hq
                      go_wp2_with fail
                      go_roundw
                      case rel => exact ⟨j + 1, by omega, by go_num, by rw [HY.out], trivial⟩
                      case measure => simp [intOf]; omega
                  · obtain rfl : j = k := by omega
                    have hb := HC.out j v
                    have hcm := cm_bd (c := hst (fun i => F i p) j) (M := (j : Int)) (by omega) (fun v => HC.out j v) v
                    obtain ⟨i0, i1, i2⟩ := HS.out.im3 0 rfl
                    obtain ⟨r0, r1⟩ := HS.out.atO hlp
                    have HU := fun z : Int => HS.out.upd hlp z
                    have HUU : Hid (∀ z q, updN (updN (hyb (votF j F) p) p ((moB (hst (fun i => F i p) j) v : Nat) : Int)) p z q = updN (hyb (votF j F) p) p z q) := fun z q => by rw [updN_upd]
                    have HCM := hide hcm
                    by_cases hq : cmF (hst (fun i => F i p) j) v < hst (fun i => F i p) j v
                    · obtain ⟨e1, e2⟩ := cm_yes hq
                      have E1 := hide e1
                      have HN9 : Hid (St w [(N, [.int .i64 (Wv 0), .int .i64 (Hv 0), .slice (some ⟨o, 0, none⟩) (ln 0) (ln 0)]), (w.heap.size, [.int .i64 0, .int .i64 0, .slice none 0 0])] [(some ⟨o, 0, none⟩, o, ln 0, fun q => .int .i64 (updN (hyb (votF j F) p) p ((moB (hst (fun i => F i p) j) (v + 1) : Nat) : Int) q))] (wr.setCell ⟨o, p, none⟩ (.int .i64 v))) := by
                        have h9 := HU v
                        simp only [HUU.out] at h9
                        rw [e2]
                        exact h9
                      clear HU HUU HS HC HSTP HPix HVE HP HALL e1 e2 HCM
                      generalize hst (fun i => F i p) j v = c0 at *
                      generalize cmF (hst (fun i => F i p) j) v = c1 at *
                      go_wp2_with fail
                      exact ⟨⟨v + 1, by omega, rfl, by rw [E1.out], HN9.out⟩, by simp [intOf]; omega⟩
                    · obtain ⟨e1, e2⟩ := cm_no hb.1 hq
                      have E1 := hide e1
                      have HN9 : Hid (St w [(N, [.int .i64 (Wv 0), .int .i64 (Hv 0), .slice (some ⟨o, 0, none⟩) (ln 0) (ln 0)]), (w.heap.size, [.int .i64 0, .int .i64 0, .slice none 0 0])] [(some ⟨o, 0, none⟩, o, ln 0, fun q => .int .i64 (updN (hyb (votF j F) p) p ((moB (hst (fun i => F i p) j) (v + 1) : Nat) : Int) q))] wr) := by
                        show St _ _ _ _
                        rw [e2]
                        exact HS.out
                      clear HU HUU HS HC HSTP HPix HVE HP HALL e1 e2 HCM r0 r1 i0 i1 i2
                      generalize hst (fun i => F i p) j v = c0 at *
                      generalize cmF (hst (fun i => F i p) j) v = c1 at *
                      go_wp2_with fail
                      exact ⟨⟨v + 1, by omega, rfl, by rw [E1.out], HN9.out⟩, by simp [intOf]; omega⟩
              · obtain rfl : v = 256 := by omega
                have HN9 : Hid (St w [(N, [.int .i64 (Wv 0), .int .i64 (Hv 0), .slice (some ⟨o, 0, none⟩) (ln 0) (ln 0)]), (w.heap.size, [.int .i64 0, .int .i64 0, .slice none 0 0])] [(some ⟨o, 0, none⟩, o, ln 0, fun q => .int .i64 (hyb (votF k F) (p + 1) q))] wr) := by
                  have h9 := HS.out
                  rw [← HVE.out, updN_hyb] at h9
                  exact h9
                clear HS HC HSTP HPix HVE HP HALL
                go_wp2_with fail
                exact ⟨⟨p + 1, by omega, rfl, HN9.out⟩, by simp [intOf]; omega⟩
          · obtain rfl : p = ln 0 := by omega
            obtain ⟨j0, j1, j2⟩ := HS.out.im3 0 rfl
            obtain ⟨i0, i1, i2⟩ := HS.out.im3 1 rfl
            obtain ⟨e0, e1, e2⟩ := HS.out.fr3 1 rfl
            have HF := hide (HS.out.fill3' (L1 := [_]) (.int .i64 (Wv 0)) (.int .i64 (Hv 0)) (.slice (some ⟨o, 0, none⟩) (ln 0) (ln 0)))
            clear HALL HP HHY
            go_wp2_with fail
            refine bodyPost_ret (v := im (Wv 0) (Hv 0) (some ⟨o, 0, none⟩) (ln 0) (ln 0)) (by simp [results, Try.results5, go_sem, i0, i1, i2]) rfl ?_
            rw [HQT.out]
            exact ImR.congr' (HF.out.imR (Wv 0) (Hv 0) (ln 0)) (fun q hq => by have hq' : q < ln 0 := hq; unfold hyb; rw [if_pos hq'])

end Go.Proofs.Ytfbjjfpcgpkhiaa
