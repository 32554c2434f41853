/- The vote at one place, and the program's votes. -/
import Derived.Test.YtfbjjfpcgpkhiaaVta
import Derived.BigRegion
namespace Go.Proofs.Ytfbjjfpcgpkhiaa
open Go.RowKit

set_option maxRecDepth 100000 in
theorem tal_index (f : Nat → Int) (m k : Nat) (hk : k < 256) (w : World) : (Instr.index 48 (.agg (hsA f m)) (.int .i64 (k : Int))).run Try.prog w = .ok (.int .i64 (hst f m k)) w := by
  have hA := hsA_at f m k hk
  have hs := hsA_size f m
  generalize hsA f m = A at *
  generalize hst f m k = v at *
  have hb : (0 : Int) ≤ k ∧ (k : Int) < 256 := by omega
  have hk' : k < A.size := by omega
  rw [Array.getElem?_eq_getElem hk'] at hA
  have hA' := Option.some.inj hA
  simp [Instr.index, go_sem, hb, part, hA', hs, hk]

set_option maxRecDepth 100000 in
set_option maxHeartbeats 4000000 in
theorem mostOften_any (f : Nat → Int) (m : Nat) (w : World) :
    Calls Try.prog 22 #[.agg (hsA f m)] w fun e w' => e = .returned (.int .i64 (moB (hst f m) 256 : Nat)) ∧ Below w.heap.size w w' := by
  have hH := heap_alloc_last w (.cells (hsA f m) 48)
  have hsz : (hsA f m).size = 256 := hsA_size f m
  obtain ⟨hz, hi⟩ := zero_of_info tal_info
  have hila : (Try.prog.info? 48).map (·.size) = some (hsA f m).toList.length := by rw [Array.length_toList, hsz]; exact hi
  have HC : Hid (∀ k, k < 256 → (w.alloc (.cells (hsA f m) 48)).cell? ⟨w.heap.size, k, none⟩ = some (.int .i64 (hst f m k))) := fun k hk => by rw [cell_of_row _ _ k _ _ _ hH, hsA_at f m k hk]
  have HB : Hid (Below w.heap.size w (w.alloc (.cells (hsA f m) 48))) := bnew _ _
  have hra : (w.alloc (.cells (hsA f m) 48)).rangeAt w.heap.size 0 (hsA f m).toList := fun j v hv => by
    rw [Nat.zero_add, cell_of_row _ _ j _ _ _ hH]
    simpa using hv
  have hto : (hsA f m).toList.toArray = hsA f m := by simp
  have HIX := hide (tal_index f m)
  clear hH hsz hz hi
  generalize hsA f m = A at *
  go_enter Try.func22, Try.ntmps22
  go_upto_region 1 with fail
  generalize w.alloc (.cells A 48) = w1 at *
  go_wp2_with fail
  refine wp_load_mid _ _ rfl w.heap.size 0 rfl A.toList _ hra tal_under rfl hila ?_
  rw [hto]
  clear hra hila hto
  go_wp2_with fail
  go_loopw [3, 4, 5, 7] (fun b _ _ i wr => ∃ k : Nat, k ≤ 256 ∧ i = .int .i64 k ∧ b = .int .i64 (moB (hst f m) k : Nat) ∧ wr = w1) (fun _ _ _ i _ => 256 - (intOf i).toNat)
  case atStart => exact ⟨0, by omega, rfl, rfl, rfl⟩
  case round =>
    obtain ⟨k, hk, rfl, rfl, rfl⟩ := hrel
    by_cases hlt : k < 256
    · have hix := HIX.out k hlt
      have hM := moB_lt (hst f m) k
      have hc := HC.out (moB (hst f m) k) (by omega)
      have HS : Hid (moB (hst f m) (k + 1) = if hst f m (moB (hst f m) k) < hst f m k then k else moB (hst f m) k) := rfl
      generalize moB (hst f m) k = M at *
      have hM2 : (M : Int) < 256 := by omega
      have hk2 : (k : Int) < 256 := by omega
      clear HC HIX
      generalize hst f m k = x at *
      generalize hst f m M = y at *
      by_cases hq : y < x
      · have HE : Hid (moB (hst f m) (k + 1) = k) := by show _ = _; rw [HS.out, if_pos hq]
        clear HS
        go_wp2_with fail
        go_roundw
        case rel => exact ⟨k + 1, by omega, by go_num, by rw [HE.out], trivial⟩
        case measure => simp [intOf]; omega
      · have HE : Hid (moB (hst f m) (k + 1) = M) := by show _ = _; rw [HS.out, if_neg hq]
        clear HS
        go_wp2_with fail
        go_roundw
        case rel => exact ⟨k + 1, by omega, by go_num, by rw [HE.out], trivial⟩
        case measure => simp [intOf]; omega
    · obtain rfl : k = 256 := by omega
      clear HC HIX
      generalize hM : moB (hst f m) 256 = M at *
      have HM := hide hM
      clear hM
      go_wp2_with fail
      go_ret
      exact ⟨by rw [HM.out]; rfl, HB.out⟩

theorem vote1_fn : ∀ ar w, Sem.run Try.prog (callFunc 20 ar) w = .ok (.enter 20 ar) w := fun _ _ => rfl

set_option maxRecDepth 100000 in
set_option maxHeartbeats 4000000 in
theorem vote1_any (k : Nat) (a : Option Addr) (m cap : Nat) (ad : Nat → Option Addr) (ln cp : Nat → Nat) (F : Nat → Nat → Int) (Wv Hv : Nat → Int) (hm : m ≤ 15) (hl : ∀ i, i < m → k < ln i ∧ ln i ≤ 4096) (hF : ∀ i, i < m → 0 ≤ F i k ∧ F i k ≤ 255) (ab vb p : Nat) (hp1 : ab ≠ p) (hp2 : vb ≠ p) (hp3 : ∀ b off, a = some ⟨b, off, none⟩ → b ≠ p) (hp4 : ∀ i b off, i < m → ad i = some ⟨b, off, none⟩ → b ≠ p) (w : World)
    (h : PxM a m ad ln cp F Wv Hv w) (hab : Bx ab [.slice a m cap] w) (hvb : Bx vb [.slice (some ⟨p, 0, none⟩) m m] w) (hr : ∃ g, Row p m g w) :
    Calls Try.prog 20 #[.int .i64 (k : Int), .pointer (some ⟨ab, 0, none⟩), .pointer (some ⟨vb, 0, none⟩)] w fun e w' => e = .returned (.int .i64 (votF m F k)) ∧ Kept p w w' ∧ ∃ g, Row p m g w' := by
  obtain ⟨g, hr⟩ := hr
  have HR0 := hide (hr.part (f := fun i => F i k))
  have a0 := (hab 0 _ rfl).1
  have HL := hide hl
  have HF := hide hF
  have HP := hide h
  have HA := hide hab
  have HV := hide hvb
  have HQ := hide hp3
  have HQ4 := hide hp4
  have HN := hide (And.intro hp1 hp2)
  have hcl : ∀ wr, Kept p w wr → PxM a m ad ln cp F Wv Hv wr := fun wr hk => by
    refine ⟨?_, fun i hi => ?_⟩
    · rcases h.1 with h0 | ⟨b, off, ha, hc⟩
      · exact .inl h0
      · have hb := hp3 b off ha
        exact .inr ⟨b, off, ha, fun i hi => ⟨hk.cell hb (hc i hi).1, hk.cell hb (hc i hi).2.1, hk.cell hb (hc i hi).2.2⟩⟩
    · rcases h.2 i hi with h0 | ⟨b, off, ha, hc⟩
      · exact .inl h0
      · have hb := hp4 i b off hi ha
        exact .inr ⟨b, off, ha, fun j hj => hk.cell hb (hc j hj)⟩
  have HCL := hide hcl
  clear h hl hF hab hvb hr hp1 hp2 hp3 hp4 hcl
  go_enter Try.func20, Try.ntmps20
  go_wp2_with fail
  clear a0
  go_loopw [5, 6, 9] (fun _ _ i wr => ∃ j : Nat, j ≤ m ∧ i = .int .i64 j ∧ Part p m j (fun i => F i k) wr ∧ Kept p w wr) (fun _ _ i _ => m - (intOf i).toNat)
  case atStart => exact ⟨0, by omega, rfl, HR0.out, Kept.refl _ _⟩
  case round =>
    obtain ⟨j, hj, rfl, hP, hk⟩ := hrel
    clear HR0
    by_cases hlt : j < m
    · have hpx := HCL.out wr hk
      obtain ⟨b, off, rfl, z0, z1, z2⟩ := hpx.at hlt
      have hl1 := HL.out j hlt
      obtain ⟨bi, offi, hai, zi⟩ := (hpx.2 j hlt).at hl1.1
      have hbi := HQ4.out j bi offi hlt hai
      rw [hai] at z2
      obtain ⟨wa, hwa⟩ : ∃ wa, wr.alloc (.cells #[.int .i64 (Wv j), .int .i64 (Hv j), .slice (some ⟨bi, offi, none⟩) (ln j) (cp j)] 26) = wa := ⟨_, rfl⟩
      have hba : Below wr.heap.size wr wa := by rw [← hwa]; exact bnew _ _
      have hka := hk.trans (Kept.of_below hba)
      have j2 : wa.cell? ⟨wr.heap.size, 2, none⟩ = some (.slice (some ⟨bi, offi, none⟩) (ln j) (cp j)) := by rw [← hwa]; simp [go_sem]
      have t0 := hka.cell (a := ⟨vb, 0, none⟩) HN.out.2 (HV.out 0 _ rfl).1
      have yi : wa.cell? ⟨bi, offi + k, none⟩ = some (.int .i64 (F j k)) := (hba.cell (p := ⟨bi, offi + k, none⟩) (World.block_lt_of_cell? wr _ zi)).trans zi
      have hpl : p < wr.heap.size := by
        obtain ⟨⟨z, hz, -⟩, -⟩ := hP j hlt
        exact World.block_lt_of_cell? wr _ hz
      have hP2 := hP.below hba hpl
      obtain ⟨⟨y, hy, -⟩, fr⟩ := hP2 j hlt
      have HP3 := hide (hP2.step hlt (F j k) rfl)
      have HK3 := hide (hka.setCell (a := ⟨p, j, none⟩) rfl (.int .i64 (F j k)))
      obtain ⟨hl2, hl3⟩ := hl1
      have hk3 : (k : Int) < (ln j : Int) := by omega
      have hj3 : (j : Int) < (m : Int) := by omega
      generalize F j k = x at *
      generalize ln j = L at *
      clear HL HF HP HA HV HQ HQ4 HN HCL hpx zi hai hbi hba hka hP2 hP hk hl3 hpl
      have HWA := hide hwa
      go_upto_region 4 with fail
      clear z0 z1 z2
      generalize wr.heap.size = G at *
      clear hwa HWA
      go_region
      all_goals
        clear t0 yi j2 hy fr
        go_wp2_with fail
        exact ⟨⟨j + 1, by omega, rfl, HP3.out, HK3.out.drew⟩, by simp [intOf]; omega⟩
    · obtain rfl : j = m := by omega
      have t0 := hk.cell (a := ⟨vb, 0, none⟩) HN.out.2 (HV.out 0 _ rfl).1
      have hrow := hP.row
      have cT := tallyOf_any (some ⟨p, 0, none⟩) j j (fun i => F i k) (by omega) HF.out wr hrow.px
      have HR := hide hrow
      have HK := hide hk
      have cM := fun w' => mostOften_any (fun i => F i k) j w'
      have HE : Hid (votF j F k = (moB (hst (fun i => F i k) j) 256 : Nat)) := rfl
      generalize moB (hst (fun i => F i k) j) 256 = M at *
      generalize hsA (fun i => F i k) j = A at *
      clear HL HF HP HA HV HQ HQ4 HCL hP hk hrow
      go_wp2_with fail
      refine cT.mono ?_
      rintro e w2 ⟨rfl, hb⟩
      have HK2 := hide (HK.out.trans (Kept.of_below hb))
      have HR2 : Hid (∃ g, Row p j g w2) := ⟨_, fun q hq => by
        have h1 := HR.out q hq
        have hl := World.block_lt_of_cell? wr _ h1.1
        exact ⟨(hb.cell (p := ⟨p, q, none⟩) hl).trans h1.1, (hb.frozen (p := ⟨p, q, none⟩) hl).trans h1.2⟩⟩
      clear cT hb HK HR t0
      go_wp2_with fail
      refine (cM _).mono ?_
      rintro e w3 ⟨rfl, hb⟩
      have HK3 := hide (HK2.out.trans (Kept.of_below hb))
      have HR3 : Hid (∃ g, Row p j g w3) := by
        obtain ⟨g, h1⟩ := HR2.out
        refine ⟨g, fun q hq => ?_⟩
        have h1 := h1 q hq
        have hl := World.block_lt_of_cell? w2 _ h1.1
        exact ⟨(hb.cell (p := ⟨p, q, none⟩) hl).trans h1.1, (hb.frozen (p := ⟨p, q, none⟩) hl).trans h1.2⟩
      clear cM hb HK2 HR2
      go_wp2_with fail
      go_ret
      exact ⟨by rw [HE.out]; rfl, HK3.out, HR3.out⟩

end Go.Proofs.Ytfbjjfpcgpkhiaa
