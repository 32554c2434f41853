/- The specification's FlowDo. -/
import Derived.Test.YtefgpdfbgkhncaaFlf
namespace Go.Proofs.Ytefgpdfbgkhncaa
open Go.RowKit

theorem St.flR {w0 : World} {L : List BoxT} {O : List OwnT} {w : World} {a : Option Addr} {b n : Nat} {s : Nat → Int} (h : St w0 L ((a, b, n * 4, fun k => .int .i64 (s k)) :: O) w) (c code : Int) (cap : Nat) (hn : a = none → n = 0 ∧ cap = 0) : FlR c n s code w0 (.returned (.tuple #[vFlow c a n cap, .int .i64 code])) w :=
  ⟨a, cap, b, rfl, h.nthO 0 rfl, by
    by_cases h0 : n * 4 = 0
    · exact .inl h0
    · exact .inr (h.lt b (mem_blocks_own (x := (a, b, n * 4, fun k => .int .i64 (s k))) (List.mem_cons_self ..) h0)).1, h.below, hn⟩
theorem St.fill2 {w0 : World} {L : List BoxT} {O : List OwnT} {w : World} {c : Nat} {x0 x1 : Value} (h : St w0 ((c, [x0, x1]) :: L) O w) (v0 v1 : Value) :
    St w0 ((c, [v0, v1]) :: L) O ((w.setCell ⟨c, 0, none⟩ v0).setCell ⟨c, 1, none⟩ v1) :=
  St.fill (L1 := []) (St.fill (L1 := []) h 0 v0) 1 v1

set_option maxRecDepth 100000 in
set_option maxHeartbeats 4000000 in
theorem specFlowDo_any (c : Int) (a : Option Addr) (n cap : Nat) (g : Nat → Int) (hl : n ≤ 1048576) (hnil : a = none → n = 0 ∧ cap = 0) (kd id du : Int) (w : World) (h : Px a (n * 4) g w) :
    Calls Try.prog 11 #[vFlow c a n cap, vAct kd id du] w (FlR (foK c g n kd) (foN c g n kd id du) (foL c g n kd id du) (foC c g n kd id du) w) := by
  have HS0 := hide ((((St.start w).box [.int .i64 c, .slice a n cap] 29).box' [.int .i64 kd, .int .i64 id, .int .i64 du] 37 (b := w.heap.size + 1) (by simp)).box' [.int .i64 0, .slice none 0 0] 29 (b := w.heap.size + 2) (by simp))
  generalize hA : ((w.alloc (.cells [.int .i64 c, .slice a n cap].toArray 29)).alloc (.cells [.int .i64 kd, .int .i64 id, .int .i64 du].toArray 37)).alloc (.cells [.int .i64 0, .slice none 0 0].toArray 29) = wA at HS0
  have hA' : ((w.alloc (.cells #[.int .i64 c, .slice a n cap] 29)).alloc (.cells #[.int .i64 kd, .int .i64 id, .int .i64 du] 37)).alloc (.cells #[.int .i64 0, .slice none 0 0] 29) = wA := hA
  clear hA
  have HP0 := hide (h.below HS0.out.below)
  have cF := specFlowOk_any c a n cap g hl wA HP0.out
  have HN := hide hnil
  clear h hnil
  obtain ⟨i0, i1⟩ := HS0.out.im2 2 rfl
  cases hB : flB c g n
  · rw [hB] at cF
    have HV : Hid (∀ w', Below w.heap.size w w' → FlR (foK c g n kd) (foN c g n kd id du) (foL c g n kd id du) (foC c g n kd id du) w (.returned (.tuple #[vFlow 0 none 0 0, .int .i64 1])) w') := fun w' hb => by
      unfold foK foN foL foC
      rw [hB]
      exact ⟨none, 0, 0, rfl, .inl rfl, .inl rfl, hb, fun _ => ⟨rfl, rfl⟩⟩
    clear hB HP0 HN
    go_enter Try.func11, Try.ntmps11
    go_wp2_with fail
    refine cF.mono ?_
    rintro e w1 ⟨rfl, hb⟩
    have HS1 := hide (HS0.out.next hb)
    clear cF hb HS0 i0 i1 hA'
    obtain ⟨k0, k1⟩ := HS1.out.im2 0 rfl
    obtain ⟨e0, e1⟩ := HS1.out.fr2 0 rfl
    have HE := hide (HS1.out.fill2 (.int .i64 0) (.slice none 0 0))
    have HV2 := hide (HV.out _ HE.out.below)
    have d0 := (HE.out.im2 0 rfl).1
    have d1 := (HE.out.im2 0 rfl).2
    clear HS1 HE HV
    go_wp2_with fail
    exact bodyPost_ret (v := .tuple #[vFlow 0 none 0 0, .int .i64 1]) (by simp [results, Try.results11, go_sem, d0, d1]) rfl HV2.out
  rw [hB] at cF
  have hn5 : n ≤ 500 := (flB_at hB).2.1
  have hc5 : 0 ≤ c ∧ c ≤ 1000000000 := (flB_at hB).1
  have HKN : Hid (foK c g n kd = doK c kd ∧ foN c g n kd id du = doN c n (fl g (n * 4)) kd id du ∧ foL c g n kd id du = gL (doL c n (fl g (n * 4)) kd id du) ∧ foC c g n kd id du = doC c n (fl g (n * 4)) kd id du) := by
    unfold foK foN foL foC
    rw [hB]
    exact ⟨rfl, rfl, rfl, rfl⟩
  have cD := fun w' h' => l16Do_any c a n cap g hn5 hc5 (ris_of hB) HN.out kd id du w' h'
  rw [HKN.out.1, HKN.out.2.1, HKN.out.2.2.1, HKN.out.2.2.2]
  clear HKN hB HN
  generalize doK c kd = K at *
  generalize doN c n (fl g (n * 4)) kd id du = M at *
  generalize gL (doL c n (fl g (n * 4)) kd id du) = G at *
  generalize doC c n (fl g (n * 4)) kd id du = C at *
  go_enter Try.func11, Try.ntmps11
  go_wp2_with fail
  refine cF.mono ?_
  rintro e w1 ⟨rfl, hb⟩
  have HS1 := hide (HS0.out.next hb)
  have HP1 := hide (HP0.out.below hb)
  clear cF hb HS0 HP0 i0 i1 hA'
  obtain ⟨i0, i1⟩ := HS1.out.im2 2 rfl
  obtain ⟨j0, j1, j2⟩ := HS1.out.im3 1 rfl
  go_wp2_with fail
  refine (cD _ HP1.out).mono ?_
  rintro e w2 ⟨a', cp', b', rfl, how, hbb, hb2, hnn⟩
  have HS2 := hide (HS1.out.own hb2 how.v hbb)
  have HNN := hide hnn
  clear cD how hbb hb2 HS1 HP1 i0 i1 j0 j1 j2 hnn
  obtain ⟨k0, k1⟩ := HS2.out.im2 0 rfl
  obtain ⟨e0, e1⟩ := HS2.out.fr2 0 rfl
  have HE := hide (HS2.out.fill2 (.int .i64 K) (.slice a' M cp'))
  have d0 := (HE.out.im2 0 rfl).1
  have d1 := (HE.out.im2 0 rfl).2
  have HV := hide (HE.out.flR K C cp' HNN.out)
  clear HS2 HE HNN
  go_wp2_with fail
  exact bodyPost_ret (v := .tuple #[vFlow K a' M cp', .int .i64 C]) (by simp [results, Try.results11, go_sem, d0, d1]) rfl HV.out

end Go.Proofs.Ytefgpdfbgkhncaa
