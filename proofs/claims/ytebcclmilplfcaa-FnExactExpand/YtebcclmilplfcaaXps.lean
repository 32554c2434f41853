/- The program's reader: tones as steps. -/
import Derived.Test.YtebcclmilplfcaaXpa
import Derived.Test.YtebcclmilplfcaaTkb
namespace Go.Proofs.Ytebcclmilplfcaa
open Go.RowKit

/-- a step behind a tone -/
def spA (A C : Int) : Int := if C % 2 = 1 then A - (C + 1) / 2 else A + C / 2
/-- where the reader of steps is, and the tone ahead -/
def spS (g : Nat → Int) (N o : Nat) : Nat → Nat × Int
  | 0 => (o, 0)
  | k + 1 => (tsO g N (spS g N o k).1, spA (spS g N o k).2 (tsV g N (spS g N o k).1))
theorem ts_bd (g : Nat → Int) (N o : Nat) (ho : o ≤ 8 * N) : 0 ≤ tsV g N o ∧ tsV g N o < 2097152 ∧ o ≤ tsO g N o ∧ tsO g N o ≤ 8 * N := by
  have := tsR_bd g N 3 0 0 o (by omega) (by decide) ho
  unfold tsV tsO
  simpa using this
theorem spS_bd (g : Nat → Int) (N o : Nat) (ho : o ≤ 8 * N) : ∀ k, (spS g N o k).1 ≤ 8 * N ∧ -(k * 1048576 : Int) ≤ (spS g N o k).2 ∧ (spS g N o k).2 ≤ k * 1048576
  | 0 => ⟨ho, by simp [spS], by simp [spS]⟩
  | k + 1 => by
    have ih := spS_bd g N o ho k
    have b := ts_bd g N _ ih.1
    refine ⟨b.2.2.2, ?_⟩
    simp only [spS]
    generalize tsV g N (spS g N o k).1 = C at *
    generalize (spS g N o k).2 = A at *
    unfold spA
    split <;> omega

set_option maxRecDepth 100000 in
theorem takeSteps1_fn (ar : Array Value) (w : World) : Sem.run Try.prog (callFunc 59 ar) w = .ok (.enter 59 ar) w := rfl

set_option maxRecDepth 100000 in
theorem takeSteps1_any (p q1 q2 : Nat) (a : Option Addr) (N cap o : Nat) (g : Nat → Int) (hN : N ≤ 1048576) (hg : ∀ k, k < N → 0 ≤ g k ∧ g k ≤ 255) (ho : o ≤ 8 * N) (A : Int) (hA0 : -1099511627776 ≤ A) (hA1 : A ≤ 1099511627776) (w : World) (hx : Bx p [.slice a N cap, .int .i64 o] w) (hP : PxU a N g w) (hap : N ≠ 0 → ∀ b off, a = some ⟨b, off, none⟩ → ¬ b = p)
    (hq2 : ¬ q2 = p) (hz2 : q2 < w.heap.size) (hzp : p < w.heap.size) (h1 : Bx q1 [.pointer (some ⟨p, 0, none⟩)] w) (h2 : Bx q2 [.int .i64 A] w) :
    Calls Try.prog 59 #[.pointer (some ⟨q1, 0, none⟩), .pointer (some ⟨q2, 0, none⟩)] w fun e w' => e = .returned (.int .i64 (spA A (tsV g N o))) ∧ KpS (fun b => b = p ∨ b = q2) w w' ∧ Bx p [.slice a N cap, .int .i64 (tsO g N o : Nat)] w' ∧ Bx q2 [.int .i64 (spA A (tsV g N o))] w' := by
  have c := takeSmall_any p a N cap o g hN hg ho w hx hP hap
  have b := ts_bd g N o ho
  have i1 := (h1 0 _ rfl).1
  have H2 := hide h2
  have HQ := hide hq2
  have HZ := hide hz2
  have HZP := hide hzp
  have hC0 := b.1
  have hC1 := b.2.1
  clear hx hP h1 h2 hg hap b hq2 hz2 hzp
  generalize tsV g N o = C at *
  generalize tsO g N o = o2 at *
  have e1 : C.tmod 2 = C % 2 := Int.tmod_eq_emod_of_nonneg hC0
  have e2 : (C + 1).tdiv 2 = (C + 1) / 2 := Int.tdiv_eq_ediv_of_nonneg (by omega)
  have e3 : C.tdiv 2 = C / 2 := Int.tdiv_eq_ediv_of_nonneg hC0
  go_enter Try.func59, Try.ntmps59
  go_wp2_with fail
  refine c.mono ?_
  rintro e w2 ⟨rfl, hk, hb⟩
  clear c
  have h2' := hk.bx HQ.out HZ.out H2.out
  have i2 := (h2' 0 _ rfl).1
  have f2 := (h2' 0 _ rfl).2
  have HK : Hid (∀ z, KpS (fun b => b = p ∨ b = q2) w (w2.setCell ⟨q2, 0, none⟩ z)) := fun z => (show KpS (fun b => b = p ∨ b = q2) w w2 from ⟨hk.os, hk.tape, hk.output, hk.size, fun b hb hs => hk.block b hb (fun h => hs (.inl h))⟩).setCell (.inr rfl) z
  have HB : Hid (∀ z, Bx p [.slice a N cap, .int .i64 (o2 : Nat)] (w2.setCell ⟨q2, 0, none⟩ z)) := fun z => by
    have : KpS (· = q2) w2 (w2.setCell ⟨q2, 0, none⟩ z) := (KpS.refl (· = q2) w2).setCell rfl z
    exact this.bx (fun h => HQ.out h.symm) (Nat.lt_of_lt_of_le HZP.out hk.size) hb
  have HB2 := hide (fun z => h2'.set 0 z)
  clear hk hb h2' H2 i1
  by_cases hodd : C % 2 = 1
  · have HV : Hid (spA A C = A - (C + 1) / 2) := by show _ = _; unfold spA; rw [if_pos hodd]
    have w1 : IntKind.i64.wrap (A - (C + 1) / 2) = A - (C + 1) / 2 := by rw [IntKind.wrap_i64]; omega
    go_wp2_with fail
    go_ret
    exact ⟨by rw [HV.out]; rfl, HK.out _, HB.out _, by rw [HV.out]; exact HB2.out _⟩
  · have HV : Hid (spA A C = A + C / 2) := by show _ = _; unfold spA; rw [if_neg hodd]
    have w1 : IntKind.i64.wrap (A + C / 2) = A + C / 2 := by rw [IntKind.wrap_i64]; omega
    go_wp2_with fail
    go_ret
    exact ⟨by rw [HV.out]; rfl, HK.out _, HB.out _, by rw [HV.out]; exact HB2.out _⟩

/-- tones as steps are taken: so many as the bytes have -/
def spF (g : Nat → Int) (N o : Nat) : Nat → Int := fun i => (spS g N o (i + 1)).2
set_option maxRecDepth 100000 in
theorem takeSteps_any (p : Nat) (a : Option Addr) (N cap o : Nat) (g : Nat → Int) (hN : N ≤ 1048576) (hg : ∀ k, k < N → 0 ≤ g k ∧ g k ≤ 255) (ho : o ≤ 8 * N) (n : Nat) (hn : n ≤ 65536) (w : World) (hx : Bx p [.slice a N cap, .int .i64 o] w) (hP : PxU a N g w) (hap : N ≠ 0 → ∀ b off, a = some ⟨b, off, none⟩ → b ≠ p ∧ b < w.heap.size) (hpw : p < w.heap.size) :
    Calls Try.prog 51 #[.pointer (some ⟨p, 0, none⟩), .int .i64 n] w fun e w' => ∃ (c : Nat) (v : Value), c ≤ n ∧ (c = n ∨ 8 * N ≤ (spS g N o c).1) ∧ e = .returned v ∧ w'.ownsRow w.heap.size 2 1 v c (ints (fl (spF g N o) c)) ∧ KpS (· = p) w w' := by
  let W2 := (w.alloc (.cells #[.pointer (some ⟨p, 0, none⟩)] 70)).alloc (.cells #[.int .i64 0] 2)
  have hW2 : Below w.heap.size w W2 := ((Below.refl _ _).alloc (Nat.le_refl _) _).alloc (by simp) _
  have hs2 : W2.heap.size = w.heap.size + 2 := by simp [W2]
  have q1 : Bx w.heap.size [.pointer (some ⟨p, 0, none⟩)] W2 := (Bx.new [.pointer (some ⟨p, 0, none⟩)] _ w).below (bnew _ _) (by simp)
  have q2 : Bx (w.heap.size + 1) [.int .i64 0] W2 := by
    have := Bx.new [.int .i64 0] 2 (w.alloc (.cells #[.pointer (some ⟨p, 0, none⟩)] 70))
    simpa using this
  have c := takeAll_any p a N cap hN n (by omega) 59 takeSteps1_fn #[.pointer (some ⟨w.heap.size, 0, none⟩), .pointer (some ⟨w.heap.size + 1, 0, none⟩)] (fun b => b = p ∨ b = w.heap.size + 1) W2 (fun b hb => by omega) (spF g N o) (fun i => (spS g N o i).1)
    (fun i wr => Bx p [.slice a N cap, .int .i64 ((spS g N o i).1 : Nat)] wr ∧ PxU a N g wr ∧ Bx w.heap.size [.pointer (some ⟨p, 0, none⟩)] wr ∧ Bx (w.heap.size + 1) [.int .i64 (spS g N o i).2] wr)
    ⟨hx.below hW2 hpw, hP.below hW2, q1, q2⟩
    (fun i wr h => h.1)
    (fun i wr w' h hb => ⟨h.1.below hb (by omega), h.2.1.belowB hb (fun h0 b off ha => by have := (hap h0 b off ha).2; omega), h.2.2.1.below hb (by omega), h.2.2.2.below hb (by omega)⟩)
    (fun i wr hi hO hsz h => by
      have bd := spS_bd g N o ho i
      refine (takeSteps1_any p w.heap.size (w.heap.size + 1) a N cap (spS g N o i).1 g hN hg bd.1 (spS g N o i).2 (by omega) (by omega) wr h.1 h.2.1 (fun h0 b off ha => (hap h0 b off ha).1) (by omega) (by omega) (by omega) h.2.2.1 h.2.2.2).mono ?_
      rintro e w' ⟨rfl, hk, hb, hb2⟩
      exact ⟨rfl, hk, hb, hk.pxU (fun h0 b off ha => by have := hap h0 b off ha; omega) h.2.1, hk.bx (by omega) (by omega) h.2.2.1, hb2⟩)
  have HF : Hid (∀ w', KpS (fun b => b = p ∨ b = w.heap.size + 1) W2 w' → KpS (· = p) w w') := fun w' h => by
    have k := KpS.after hW2 h
    exact ⟨k.os, k.tape, k.output, k.size, fun b hb hs => k.block b hb (by omega)⟩
  have HB : Hid (∀ (v : Value) c xs (w' : World), w'.ownsRow W2.heap.size 2 1 v c xs → w'.ownsRow w.heap.size 2 1 v c xs) := fun v c xs w' h => by
    obtain ⟨h1, h2⟩ := h
    refine ⟨h1, ?_⟩
    rcases h2 with h2 | ⟨b', cap', cur, hv, hB, hh, hn, hc, hs, ht⟩
    · exact .inl h2
    · exact .inr ⟨b', cap', cur, hv, by omega, hh, hn, hc, hs, ht⟩
  clear hx hP hap hg q1 q2 hW2 hs2
  go_enter Try.func51, Try.ntmps51
  go_wp2_with fail
  refine c.mono ?_
  rintro e w' ⟨c', v, h1, h2, h3, rfl, h4, h5, -⟩
  have HR : Hid (∃ (c : Nat) (v' : Value), c ≤ n ∧ (c = n ∨ 8 * N ≤ (spS g N o c).1) ∧ Ending.returned v = .returned v' ∧ w'.ownsRow w.heap.size 2 1 v' c (ints (fl (spF g N o) c)) ∧ KpS (· = p) w w') :=
    ⟨c', v, h1, h2, rfl, HB.out _ _ _ _ h4, HF.out _ h5⟩
  clear c h1 h2 h3 h4 h5 HB HF
  go_wp2_with fail
  go_ret
  exact HR.out

theorem stL_pre (f : Nat → Int) : ∀ n k, k ≤ n → ∃ R, stL f n = stL f k ++ R
  | 0, k, h => ⟨[], by obtain rfl : k = 0 := by omega
                       simp⟩
  | n + 1, k, h => by
    by_cases e : k = n + 1
    · exact ⟨[], by rw [e]; simp⟩
    · obtain ⟨R, hR⟩ := stL_pre f n k (by omega)
      exact ⟨R ++ smL (stpV (f n) (aheadV f n)), by simp only [stL]; rw [hR, List.append_assoc]⟩
theorem spA_stp (now last : Int) : spA last (stpV now last : Nat) = now := by
  unfold spA stpV
  split <;> split <;> omega
/-- steps that stand there are read: behind k tones the reader is behind their bytes -/
theorem sp_read (f : Nat → Int) (n : Nat) (hf : tnB f n) (P Q B : List Int) (hB : B = P ++ stL f n ++ Q) : ∀ k, k ≤ n → spS (gB B) B.length (8 * P.length) k = (8 * (P ++ stL f k).length, aheadV f k)
  | 0, _ => by simp [spS, stL, aheadV]
  | k + 1, hk => by
    have ih := sp_read f n hf P Q B hB k (by omega)
    obtain ⟨R, hR⟩ := stL_pre f n (k + 1) hk
    have a := hf k (by omega)
    have b := aheadV_bd hf k (by omega)
    have c := stpV_le a.1 a.2 b.1 b.2
    have r := ts_read (stpV (f k) (aheadV f k)) (by omega) (P ++ stL f k) (R ++ Q) B (by rw [hB, hR]; simp [stL])
    simp only [spS]
    rw [ih]
    show (tsO (gB B) B.length (8 * (P ++ stL f k).length), spA (aheadV f k) (tsV (gB B) B.length (8 * (P ++ stL f k).length))) = _
    rw [r.1, r.2, spA_stp]
    simp [stL, aheadV]
/-- of bytes that steps made all tones are read -/
theorem sp_all (f : Nat → Int) (n : Nat) (hf : tnB f n) (P B : List Int) (hB : B = P ++ stL f n) (c : Nat) (hc : c ≤ n) (hz : c = n ∨ 8 * B.length ≤ (spS (gB B) B.length (8 * P.length) c).1) : c = n ∧ fl (spF (gB B) B.length (8 * P.length)) c = fl f n := by
  have rd := sp_read f n hf P [] B (by rw [hB]; simp)
  have hcn : c = n := by
    rcases hz with h | h
    · exact h
    · rw [rd c hc] at h
      by_cases e : c = n
      · exact e
      · exfalso
        obtain ⟨R, hR⟩ := stL_pre f n (c + 1) (by omega)
        have a := hf c (by omega)
        have b := aheadV_bd hf c (by omega)
        have d := stpV_le a.1 a.2 b.1 b.2
        have l := (smL_len (stpV (f c) (aheadV f c)) (by omega)).1
        rw [hB, hR] at h
        simp only [stL, List.length_append] at h
        omega
  refine ⟨hcn, ?_⟩
  subst hcn
  refine fl_congr fun i hi => ?_
  show (spS (gB B) B.length (8 * P.length) (i + 1)).2 = f i
  rw [rd (i + 1) (by omega)]
  rfl

end Go.Proofs.Ytebcclmilplfcaa
