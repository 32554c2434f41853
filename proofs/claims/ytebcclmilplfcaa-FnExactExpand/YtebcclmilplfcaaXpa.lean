/- The program's reader: tones one by one by a function value, whatever they are. -/
import Derived.Test.YtebcclmilplfcaaExn
namespace Go.Proofs.Ytebcclmilplfcaa
open Go.RowKit

theorem own_form1 {w : World} {B n m : Nat} {e : TypeId} {v : Value} {xs : List Value} (h : w.ownsRow B e m v n xs) : ∃ a c, v = .slice a n c := by
  obtain ⟨_, hv | ⟨b, cap, cur, hv, _⟩⟩ := h
  · exact ⟨none, 0, by rw [hv.1, hv.2]⟩
  · exact ⟨_, cap, hv⟩
/-- tones are taken one by one by a function value, till there are enough or the bytes end -/
theorem takeAllE_any (p : Nat) (a : Option Addr) (N cap : Nat) (hN : N ≤ 1048576) (n : Nat) (hn : n ≤ 1048576) (K : Nat) (hK : ∀ ar w, Sem.run Try.prog (callFunc K ar) w = .ok (.enter K ar) w) (cp : Array Value) (S : Nat → Prop) (w : World) (hS : ∀ b, S b → b < w.heap.size) (Inv : List Int → Nat → World → Prop) (o0 : Nat)
    (h0 : Inv [] o0 w)
    (hx : ∀ L o wr, Inv L o wr → Bx p [.slice a N cap, .int .i64 o] wr)
    (hn' : ∀ L o wr w', Inv L o wr → Below w.heap.size wr w' → Inv L o w')
    (hs : ∀ L o wr, L.length < n → o < 8 * N → w.heap.size ≤ wr.heap.size → Inv L o wr → Calls Try.prog K cp wr fun e w' => ∃ x o', e = .returned (.int .i64 x) ∧ KpS S wr w' ∧ Inv (L ++ [x]) o' w') :
    Calls Try.prog 55 #[.pointer (some ⟨p, 0, none⟩), .int .i64 n, .func (.func K) #[] cp] w fun e w' => ∃ (L : List Int) (o : Nat) (v : Value), L.length ≤ n ∧ (L.length = n ∨ 8 * N ≤ o) ∧ e = .returned v ∧ w'.ownsRow w.heap.size 2 1 v L.length (ints L) ∧ KpS S w w' ∧ Inv L o w' := by
  have H0 := hide h0
  have HX := hide hx
  have HN := hide hn'
  have HS := hide hs
  have HSS := hide hS
  clear h0 hx hn' hs hS
  go_enter Try.func55, Try.ntmps55
  go_wp2_with fail
  go_loopw [7] (fun v wr => ∃ (L : List Int) (o i : Nat) (ad : Option Addr) (cp' : Nat), i ≤ n ∧ L.length = i ∧ v = .slice ad i cp' ∧ wr.ownsRow w.heap.size 2 1 (.slice ad i cp') i (ints L) ∧ KpS S w wr ∧ Inv L o wr) (fun v _ => n - (match v with | .slice _ k _ => k | _ => 0))
  case atStart => exact ⟨[], o0, 0, none, 0, by omega, rfl, rfl, World.ownsRow_nil _ _ _ _, KpS.refl _ _, H0.out⟩
  case round =>
    obtain ⟨L, o, i, ad, cp', hi, hLi, rfl, ho, hk, hI⟩ := hrel
    have HLi := hide hLi
    have HO := hide ho
    have HK := hide hk
    have HI := hide hI
    clear ho hk hI H0 hLi
    by_cases hlt : i < n
    · have cE := isAtEnd_any p a N cap o hN wr (HX.out L o wr HI.out)
      by_cases hend : 8 * N ≤ o
      · rw [decide_eq_true hend] at cE
        have HF : Hid (∀ d, ∃ (L : List Int) (o : Nat) (v : Value), L.length ≤ n ∧ (L.length = n ∨ 8 * N ≤ o) ∧ Ending.returned (.slice ad i cp') = .returned v ∧ (wr.drewN d).ownsRow w.heap.size 2 1 v L.length (ints L) ∧ KpS S w (wr.drewN d) ∧ Inv L o (wr.drewN d)) := fun d =>
          ⟨L, o, _, by rw [HLi.out]; exact hi, .inr hend, rfl, by rw [HLi.out]; exact owns_same HO.out fun _ _ => rfl, ⟨HK.out.os, HK.out.tape, HK.out.output, HK.out.size, HK.out.block⟩, HN.out L o wr _ HI.out (below_drewN (Below.refl _ _) d)⟩
        clear HX HN HS HSS HO HK HI hend
        go_wp2_with fail
        refine cE.mono ?_
        rintro e w2 ⟨rfl, d, rfl⟩
        clear cE
        go_wp2_with fail
        go_ret
        exact HF.out d
      · rw [decide_eq_false hend] at cE
        have hend' : o < 8 * N := by omega
        have HI2 : Hid (∀ d, Inv L o (wr.drewN d)) := fun d => HN.out L o wr _ HI.out (below_drewN (Below.refl _ _) d)
        have HO2 : Hid (∀ d, (wr.drewN d).ownsRow w.heap.size 2 1 (.slice ad i cp') i (ints L)) := fun d => owns_same HO.out fun _ _ => rfl
        have HK2 : Hid (∀ d, KpS S w (wr.drewN d)) := fun d => ⟨HK.out.os, HK.out.tape, HK.out.output, HK.out.size, HK.out.block⟩
        clear HX HO HI HK hend
        go_wp2_with fail
        refine cE.mono ?_
        rintro e w2 ⟨rfl, d, rfl⟩
        clear cE
        have cS := HS.out L o (wr.drewN d) (by rw [HLi.out]; exact hlt) hend' (HK2.out d).size (HI2.out d)
        have HO3 := hide (HO2.out d)
        have HK3 := hide (HK2.out d)
        clear HI2 HO2 HK2 hend' HS
        generalize World.drewN wr d = wd at *
        go_wp2_with fail
        refine cS.mono ?_
        rintro e w3 ⟨x, o', rfl, hk3, hi3⟩
        have HO4 : Hid (w3.ownsRow w.heap.size 2 1 (.slice ad i cp') i (ints L)) := owns_same HO3.out fun b hb => hk3.kp (fun h9 => by have := (HO3.out.lt b hb).1; have := HSS.out b h9; omega) (HO3.out.lt b hb).2
        have HK4 := hide (HK3.out.trans hk3)
        have HI4 := hide hi3
        have HS4 : Hid (w.heap.size ≤ w3.heap.size) := HK4.out.size
        clear cS hk3 hi3 HO3 HK3
        generalize hv0 : Value.slice ad i cp' = v0 at *
        go_wp2_with (refine growL _ rfl _ _ rfl w.heap.size v0 i L rfl w3 HO4.out (Below.refl _ _) HS4.out x rfl (by omega) ?_)
        intro v' w' ho' hb' hs'
        obtain ⟨a2, c2, rfl⟩ := own_form1 ho'
        have HO5 : Hid (w'.ownsRow w.heap.size 2 1 (.slice a2 (i + 1) c2) (i + 1) (ints (L ++ [x]))) := ho'
        have HK5 : Hid (KpS S w w') := ⟨hb'.os.trans HK4.out.os, hb'.tape.trans HK4.out.tape, hb'.output.trans HK4.out.output, Nat.le_trans HK4.out.size hb'.size, fun b hb hs => (hb'.block b hb).trans (HK4.out.block b hb hs)⟩
        have HI5 := hide (HN.out _ _ _ _ HI4.out hb')
        clear ho' hb' hs' HO4 HK4 HI4 HS4 HN HSS hv0
        go_wp2_with fail
        go_roundw
        case rel => exact ⟨L ++ [x], o', i + 1, a2, c2, by omega, by rw [List.length_append, HLi.out]; rfl, rfl, HO5.out, HK5.out, HI5.out⟩
        case measure => simp; omega
    · obtain rfl : i = n := by omega
      have HF : Hid (∃ (L : List Int) (o : Nat) (v : Value), L.length ≤ i ∧ (L.length = i ∨ 8 * N ≤ o) ∧ Ending.returned (.slice ad i cp') = .returned v ∧ wr.ownsRow w.heap.size 2 1 v L.length (ints L) ∧ KpS S w wr ∧ Inv L o wr) := ⟨L, o, _, by rw [HLi.out]; exact hi, .inl HLi.out, rfl, by rw [HLi.out]; exact HO.out, HK.out, HI.out⟩
      clear HX HN HS HSS HO HK HI
      go_wp2_with fail
      go_ret
      exact HF.out

end Go.Proofs.Ytebcclmilplfcaa
