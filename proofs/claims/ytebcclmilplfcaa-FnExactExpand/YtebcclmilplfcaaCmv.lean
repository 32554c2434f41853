/- The specification's Compress. -/
import Derived.Test.YtebcclmilplfcaaCmu
namespace Go.Proofs.Ytebcclmilplfcaa
open Go.RowKit

set_option maxRecDepth 100000 in
set_option maxHeartbeats 1000000 in
theorem specCompressN_any (s : ByteArray) (a : Option Addr) (n cap : Nat) (f : Nat → Int) (hl : n ≤ 1048576) (hno : cmOk (cdN s) f n = false) (w : World) (h : Px a n f w) :
    Calls Try.prog 6 #[.string s, .slice a n cap] w (CmR (cdN s) f n w) := by
  have HT := hide hno
  have cT := l13Tones_any a n cap f hl w h
  cases hton : tonB f n with
  | false =>
    have hq : (decide (n ≤ 65536) && allG (fun k => inB (f k) 0 65535) n) = false := hton
    rw [hq] at cT
    clear h hno hton hq
    go_enter Try.func6, Try.ntmps6
    go_wp2_with fail
    refine cT.mono ?_
    rintro e w1 ⟨rfl, rfl⟩
    clear cT
    go_wp2_with fail
    go_ret2
    exact CmR.no HT.out _ _ _ _ (bnew _ _)
  | true =>
    have hq : (decide (n ≤ 65536) && allG (fun k => inB (f k) 0 65535) n) = true := hton
    rw [hq] at cT
    have hc : cdN s = 0 := by
      unfold cmOk at hno
      rw [hton] at hno
      simpa using hno
    have cC := specCodecs_any w
    have cF := fun w' h' => l12Find_any w.heap.size 4 4 g4 s (by omega) w' h'
    clear h hno hton hq
    go_enter Try.func6, Try.ntmps6
    go_wp2_with fail
    refine cT.mono ?_
    rintro e w1 ⟨rfl, rfl⟩
    clear cT
    go_wp2_with fail
    refine cC.mono ?_
    rintro e w2 ⟨rfl, hx2, hb2⟩
    have cF2 := cF w2 hx2
    have HB2 := hide hb2
    clear cC cF hx2 hb2
    go_wp2_with fail
    refine cF2.mono ?_
    rintro e w3 ⟨⟨r, rfl, hr⟩, rfl⟩
    have hr' := isAt_cd hr
    rw [hc] at hr'
    have hr0 : r = -1 := by omega
    subst hr0
    clear hr hr' cF2 hc
    have HB3 : Hid (Below w1.heap.size w1 (w3.alloc (.cells #[] 5))) := HB2.out.alloc HB2.out.size _
    go_wp2_with fail
    go_ret2
    exact CmR.no HT.out _ _ _ _ HB3.out

theorem specCompress_any (s : ByteArray) (a : Option Addr) (n cap : Nat) (f : Nat → Int) (hl : n ≤ 1048576) (w : World) (h : Px a n f w) :
    Calls Try.prog 6 #[.string s, .slice a n cap] w (CmR (cdN s) f n w) := by
  cases hT : cmOk (cdN s) f n with
  | false => exact specCompressN_any s a n cap f hl hT w h
  | true =>
    have hton : tonB f n = true := by simp only [cmOk, Bool.and_eq_true] at hT; exact hT.1
    have hc0 : cdN s ≠ 0 := by intro e; simp [cmOk, e] at hT
    have hc4 := cdN_le s
    have hs := cd_lit (s := s) rfl hc0
    obtain hc | hc | hc | hc : cdN s = 1 ∨ cdN s = 2 ∨ cdN s = 3 ∨ cdN s = 4 := by omega
    all_goals rw [hc] at hs ⊢
    · exact specCompressP_any s hs a n cap f hton w h
    · exact specCompressC_any s hs a n cap f hton w h
    · exact specCompressR_any s hs a n cap f hton w h
    · exact specCompressS_any s hs a n cap f hton w h

end Go.Proofs.Ytebcclmilplfcaa
