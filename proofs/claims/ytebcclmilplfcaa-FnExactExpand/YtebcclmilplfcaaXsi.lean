/- The specification's Expand. -/
import Derived.Test.YtebcclmilplfcaaXsg
import Derived.Test.YtebcclmilplfcaaXse
import Derived.Test.YtebcclmilplfcaaXsf
namespace Go.Proofs.Ytebcclmilplfcaa
open Go.RowKit

set_option maxRecDepth 100000 in
set_option maxHeartbeats 4000000 in
theorem specExpandN_any (s : ByteArray) (hcd : cdN s = 0) (a : Option Addr) (N cap : Nat) (B : List Int) (hN : N ≤ 1048576) (hg : ∀ k, k < N → 0 ≤ gB B k ∧ gB B k ≤ 255) (w : World) (h : PxU a N (gB B) w) :
    Calls Try.prog 14 #[.string s, .slice a N cap] w (LsF (exT 0 B).length (gL (exT 0 B)) (exO 0 B) w) := by
  have cT := l13Take_any a N cap (gB B) hN hg 0 (by omega) w h
  rw [show ((0 : Nat) : Int) = 0 from rfl] at cT
  have hbd := tk_bd (gB B) N 0 hg
  have cC := specCodecs_any w
  have cF := fun w' h' => l12Find_any w.heap.size 4 4 g4 s (by omega) w' h'
  have HNO : Hid (∀ (w' : World) (ad : Option Addr) (cp : Nat), Below w.heap.size w w' → LsF (exT 0 B).length (gL (exT 0 B)) (exO 0 B) w (.returned (.tuple #[.slice ad 0 cp, .bool false])) w') := fun w' ad cp hb => ex_nil (fun T hT => hT.no) w w' ad cp hb
  generalize hv0 : tkV (gB B) N 0 = v0 at *
  generalize ho0 : tkO (gB B) N 0 = o0 at *
  clear h hg hv0 ho0
  go_enter Try.func14, Try.ntmps14
  go_wp2_with fail
  refine cT.mono ?_
  rintro e w1 ⟨rfl, rfl⟩
  clear cT
  rcases hbd with ⟨rfl, rfl⟩ | ⟨hv0, hv1, ho0, ho1⟩
  · have HR := hide (HNO.out (w1.alloc (.cells #[] 2)) (some ⟨w1.heap.size, 0, none⟩) 0 (bnew _ _))
    clear HNO cC cF
    go_wp2_with fail
    go_ret2
    exact HR.out
  obtain ⟨n, rfl⟩ : ∃ n : Nat, v0 = n := ⟨v0.toNat, by omega⟩
  obtain ⟨p0, rfl⟩ : ∃ p : Nat, o0 = p := ⟨o0.toNat, by omega⟩
  have ho2 : ¬ (p0 : Int) < 0 := by omega
  by_cases hbig : (65536 : Int) < n
  · have HR := hide (HNO.out (w1.alloc (.cells #[] 2)) (some ⟨w1.heap.size, 0, none⟩) 0 (bnew _ _))
    clear HNO cC cF
    go_wp2_with fail
    go_ret2
    exact HR.out
  go_wp2_with fail
  refine cC.mono ?_
  rintro e w2 ⟨rfl, hx2, hb2⟩
  have cF2 := cF w2 hx2
  have HB2 := hide hb2
  clear cC cF hx2 hb2
  go_wp2_with fail
  refine cF2.mono ?_
  rintro e w3 ⟨⟨r, rfl, hr⟩, rfl⟩
  have hr' := isAt_cd hr
  rw [hcd] at hr'
  have hr0 : r = -1 := by omega
  subst hr0
  have HR := hide (HNO.out (w3.alloc (.cells #[] 2)) (some ⟨w3.heap.size, 0, none⟩) 0 (HB2.out.alloc HB2.out.size _))
  clear hr hr' cF2 hcd hv0 hv1 ho0 HNO HB2
  go_wp2_with fail
  go_ret2
  exact HR.out

theorem specExpand_any (s : ByteArray) (a : Option Addr) (N cap : Nat) (g : Nat → Int) (hl : N ≤ 1048576) (hg : ∀ k, k < N → 0 ≤ g k ∧ g k ≤ 255) (w : World) (h : PxU a N g w) :
    Calls Try.prog 14 #[.string s, .slice a N cap] w (LsF (exT (cdN s) (fl g N)).length (gL (exT (cdN s) (fl g N))) (exO (cdN s) (fl g N)) w) := by
  have hfl : (fl g N).length = N := fl_len g N
  have hgB : ∀ k, k < N → gB (fl g N) k = g k := fun k hk => fl_at g N k hk
  have hg2 : ∀ k, k < N → 0 ≤ gB (fl g N) k ∧ gB (fl g N) k ≤ 255 := fun k hk => by rw [hgB k hk]; exact hg k hk
  have h2 : PxU a N (gB (fl g N)) w := by
    rcases h with h | ⟨b, off, ha, hc⟩
    · exact .inl h
    · exact .inr ⟨b, off, ha, fun k hk => by rw [hgB k hk]; exact hc k hk⟩
  have hc4 := cdN_le s
  by_cases hc0 : cdN s = 0
  · rw [hc0]
    exact specExpandN_any s hc0 a N cap (fl g N) hl hg2 w h2
  · have hs := cd_lit (s := s) rfl hc0
    obtain hc | hc | hc | hc : cdN s = 1 ∨ cdN s = 2 ∨ cdN s = 3 ∨ cdN s = 4 := by omega
    all_goals rw [hc] at hs ⊢
    · exact specExpandP_any s hs a N cap (fl g N) hfl hl hg2 w h2
    · exact specExpandC_any s hs a N cap (fl g N) hfl hl hg2 w h2
    · exact specExpandR_any s hs a N cap (fl g N) hfl hl hg2 w h2
    · exact specExpandS_any s hs a N cap (fl g N) hfl hl hg2 w h2

end Go.Proofs.Ytebcclmilplfcaa
