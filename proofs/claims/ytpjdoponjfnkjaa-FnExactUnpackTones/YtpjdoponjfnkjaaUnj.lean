/- The program's tones out of bytes. -/
import Derived.Test.YtpjdoponjfnkjaaUni
import Derived.Test.YtpjdoponjfnkjaaBeq
import Derived.Test.YtpjdoponjfnkjaaPkj
import Derived.Test.YtpjdoponjfnkjaaUns
namespace Go.Proofs.Ytpjdoponjfnkjaa
open Go.RowKit

theorem PxU.belowB {a : Option Addr} {len B : Nat} {f : Nat → Int} {w w' : World} (h : PxU a len f w) (hb : Below B w w') (hB : len ≠ 0 → ∀ b off, a = some ⟨b, off, none⟩ → b < B) : PxU a len f w' := by
  by_cases h0 : len = 0
  · exact .inl h0
  rcases h with h | ⟨b, off, ha, hc⟩
  · exact .inl h
  · exact .inr ⟨b, off, ha, fun k hk => (hb.cell (p := ⟨b, off + k, none⟩) (hB h0 b off ha)).trans (hc k hk)⟩

/-- where the reader is behind i tones -/
def rdO (N o m i : Nat) : Nat := min (o + i * m) (8 * N)
/-- tone number i of the reader -/
def rdF (g : Nat → Int) (N o m : Nat) : Nat → Int := fun i => uvE g N (rdO N o m i) m

set_option maxRecDepth 100000 in
theorem takeBits_any (p : Nat) (a : Option Addr) (N cap o : Nat) (g : Nat → Int) (hN : N ≤ 1048576) (hg : ∀ k, k < N → 0 ≤ g k ∧ g k ≤ 255) (ho : o ≤ 8 * N) (n m : Nat) (hn : n ≤ 1048576) (hm : m ≤ 62) (w : World) (hx : Bx p [.slice a N cap, .int .i64 o] w) (hP : PxU a N g w) (hap : N ≠ 0 → ∀ b off, a = some ⟨b, off, none⟩ → b ≠ p ∧ b < w.heap.size) (hpw : p < w.heap.size) :
    Calls Try.prog 28 #[.pointer (some ⟨p, 0, none⟩), .int .i64 n, .int .i64 m] w fun e w' => ∃ (c : Nat) (v : Value), c ≤ n ∧ (c = n ∨ 8 * N ≤ rdO N o m c) ∧ (∀ i, i < c → rdO N o m i < 8 * N) ∧ e = .returned v ∧ w'.ownsRow w.heap.size 2 1 v c (ints (fl (rdF g N o m) c)) ∧ KpS (· = p) w w' ∧ Bx p [.slice a N cap, .int .i64 (rdO N o m c)] w' := by
  let W2 := (w.alloc (.cells #[.pointer (some ⟨p, 0, none⟩)] 51)).alloc (.cells #[.int .i64 m] 2)
  have hW2 : Below w.heap.size w W2 := ((Below.refl _ _).alloc (Nat.le_refl _) _).alloc (by simp) _
  have hs2 : W2.heap.size = w.heap.size + 2 := by simp [W2]
  have q1 : Bx w.heap.size [.pointer (some ⟨p, 0, none⟩)] W2 := (Bx.new [.pointer (some ⟨p, 0, none⟩)] _ w).below (bnew _ _) (by simp)
  have q2 : Bx (w.heap.size + 1) [.int .i64 m] W2 := by
    have := Bx.new [.int .i64 m] 2 (w.alloc (.cells #[.pointer (some ⟨p, 0, none⟩)] 51))
    simpa using this
  have c := takeAll_any p a N cap hN n hn 32 takeBits1_fn #[.pointer (some ⟨w.heap.size, 0, none⟩), .pointer (some ⟨w.heap.size + 1, 0, none⟩)] (· = p) W2 (fun b hb => by omega) (rdF g N o m) (rdO N o m)
    (fun i wr => Bx p [.slice a N cap, .int .i64 (rdO N o m i)] wr ∧ PxU a N g wr ∧ Bx w.heap.size [.pointer (some ⟨p, 0, none⟩)] wr ∧ Bx (w.heap.size + 1) [.int .i64 m] wr)
    ⟨by rw [show rdO N o m 0 = o by unfold rdO; omega]; exact hx.below hW2 hpw, hP.below hW2, q1, q2⟩
    (fun i wr h => h.1)
    (fun i wr w' h hb => ⟨h.1.below hb (by omega), h.2.1.belowB hb (fun h0 b off ha => by have := (hap h0 b off ha).2; omega), h.2.2.1.below hb (by omega), h.2.2.2.below hb (by omega)⟩)
    (fun i wr hi hO hsz h => by
      refine (takeBits1_any p w.heap.size (w.heap.size + 1) a N cap (rdO N o m i) g hN hg (by omega) m hm wr h.1 h.2.1 (fun h0 b off ha => (hap h0 b off ha).1) h.2.2.1 h.2.2.2).mono ?_
      rintro e w' ⟨rfl, hk, hb⟩
      refine ⟨rfl, hk, ?_, hk.pxU (fun h0 b off ha => (hap h0 b off ha).1) h.2.1, hk.bx (by omega) (by omega) h.2.2.1, hk.bx (by omega) (by omega) h.2.2.2⟩
      rw [show rdO N o m (i + 1) = min (rdO N o m i + m) (8 * N) by unfold rdO at *; rw [Nat.add_mul]; omega]
      exact hb)
  have HF : Hid (∀ w', KpS (· = p) W2 w' → KpS (· = p) w w') := fun w' h => KpS.after hW2 h
  have HB : Hid (∀ (v : Value) c xs (w' : World), w'.ownsRow W2.heap.size 2 1 v c xs → w'.ownsRow w.heap.size 2 1 v c xs) := fun v c xs w' h => by
    obtain ⟨h1, h2⟩ := h
    refine ⟨h1, ?_⟩
    rcases h2 with h2 | ⟨b', cap', cur, hv, hB, hh, hn, hc, hs, ht⟩
    · exact .inl h2
    · exact .inr ⟨b', cap', cur, hv, by omega, hh, hn, hc, hs, ht⟩
  clear hx hP hap hg q1 q2 hW2 hs2
  go_enter Try.func28, Try.ntmps28
  go_wp2_with fail
  refine c.mono ?_
  rintro e w' ⟨c', v, h1, h2, h3, rfl, h4, h5, h6, -⟩
  have HR : Hid (∃ (c : Nat) (v' : Value), c ≤ n ∧ (c = n ∨ 8 * N ≤ rdO N o m c) ∧ (∀ i, i < c → rdO N o m i < 8 * N) ∧ Ending.returned v = .returned v' ∧ w'.ownsRow w.heap.size 2 1 v' c (ints (fl (rdF g N o m) c)) ∧ KpS (· = p) w w' ∧ Bx p [.slice a N cap, .int .i64 (rdO N o m c)] w') :=
    ⟨c', v, h1, h2, h3, rfl, HB.out _ _ _ _ h4, HF.out _ h5, h6⟩
  clear c h1 h2 h3 h4 h5 h6 HB HF
  go_wp2_with fail
  go_ret
  exact HR.out

theorem tlB_congr {f f' : Nat → Int} (m : Nat) : ∀ {n : Nat}, (∀ i, i < n → f i = f' i) → tlB f m n = tlB f' m n
  | 0, _ => rfl
  | n + 1, h => by simp only [tlB]; rw [tlB_congr m (fun i hi => h i (by omega)), h n (by omega)]
/-- the program's test says what the specification's says -/
theorem un_same (g : Nat → Int) (N n M : Nat) (hM1 : 1 ≤ M) (hM2 : M ≤ 16) (hn : n ≤ 65536) (hg : ∀ k, k < N → 0 ≤ g k ∧ g k ≤ 255) (hc : ∀ i, i < n → rdO N 0 M i < 8 * N) :
    sameU (pkS (rdF g N 0 M) n M) (pkN (rdF g N 0 M) n M) g N = unB g N n M := by
  have hrd : ∀ i, i < n → rdO N 0 M i = i * M := fun i hi => by have := hc i hi; unfold rdO at *; omega
  have hF : ∀ i, i < n → rdF g N 0 M i = unT g N M i := fun i hi => by unfold rdF unT; rw [hrd i hi]
  have hpk : pkB (rdF g N 0 M) n M = true := by
    unfold pkB
    rw [Bool.and_eq_true, Bool.and_eq_true]
    refine ⟨⟨decide_eq_true hn, by simp [inB]; omega⟩, allG_of fun k hk => ?_⟩
    rw [Int.toNat_natCast]
    have := uvE_bd g N (rdO N 0 M k) M
    show inB (uvE g N (rdO N 0 M k) M) 0 (2 ^ M - 1) = true
    simp [inB]; omega
  have hpn : pkN (rdF g N 0 M) n M = nB (n * M) := by unfold pkN; rw [hpk, Int.toNat_natCast]; rfl
  have hps : pkS (rdF g N 0 M) n M = byA (tlB (unT g N M) M n) := by unfold pkS; rw [Int.toNat_natCast, tlB_congr M hF]
  rw [hpn, hps]
  have hU : unB g N n M = (decide (N = nB (n * M)) && padB g (n * M) (8 * N - n * M)) := by
    unfold unB
    rw [Int.toNat_natCast, Int.toNat_natCast, show inB (n : Int) 0 65536 = true by simp [inB]; omega, show inB (M : Int) 1 16 = true by simp [inB]; omega]
    rfl
  rw [hU]
  unfold sameU
  by_cases hlen : N = nB (n * M)
  · rw [decide_eq_true hlen, decide_eq_true hlen.symm, Bool.true_and, Bool.true_and, Bool.eq_iff_iff]
    have key := unpk_iff g N M n (by omega) (by rw [hlen]; unfold nB; omega) hg
    constructor
    · intro h
      have h1 := key.1 (fun j hj => by have := allG_at h j (by omega); simpa using this)
      exact allG_of fun k hk => by simp; exact h1 _ (by omega) (by omega)
    · intro h
      have h1 := key.2 (fun i hi hi2 => by
        have := allG_at h (i - n * M) (by omega)
        rw [show n * M + (i - n * M) = i by omega] at this
        simpa using this)
      exact allG_of fun k hk => by simp; exact h1 k (by omega)
  · rw [decide_eq_false hlen, decide_eq_false (fun h => hlen h.symm)]
    rfl
theorem un_short (g : Nat → Int) (N n M c : Nat) (hM1 : 1 ≤ M) (hcn : c < n) (hc : 8 * N ≤ rdO N 0 M c) : unB g N n M = false := by
  have hU : decide (N = nB (n * M)) = false := by
    refine decide_eq_false fun h => ?_
    have h1 : (c + 1) * M ≤ n * M := Nat.mul_le_mul_right M hcn
    rw [Nat.add_mul, Nat.one_mul] at h1
    unfold rdO at hc
    unfold nB at h
    omega
  unfold unB
  rw [Int.toNat_natCast, Int.toNat_natCast, hU]
  simp

set_option maxRecDepth 100000 in
theorem implUnpackTones_any (a : Option Addr) (N cap : Nat) (g : Nat → Int) (hl : N ≤ 1048576) (hg : ∀ k, k < N → 0 ≤ g k ∧ g k ≤ 255) (n m : Int) (w : World) (h : PxU a N g w) :
    Calls Try.prog 16 #[.slice a N cap, .int .i64 n, .int .i64 m] w (LsF (unN g N n m) (unS g N m) (unB g N n m) w) := by
  have HP := hide h
  have HG := hide hg
  clear h hg
  have c1 := within_any n 0 65536 w
  have c2 := within_any m 1 16 w
  cases hI : inB n 0 65536 with
  | false =>
    have HN : Hid (unB g N n m = false) := by show _ = _; unfold unB; rw [hI]; simp
    rw [hI] at c1
    clear HP HG hI c2
    go_enter Try.func16, Try.ntmps16
    go_wp2_with fail
    refine c1.mono ?_
    rintro e w1 ⟨rfl, rfl⟩
    clear c1
    go_wp2_with fail
    go_ret2
    exact un_no HN.out _ _ _ _ (Below.refl _ _)
  | true =>
    rw [hI] at c1
    cases hM : inB m 1 16 with
    | false =>
      have HN : Hid (unB g N n m = false) := by show _ = _; unfold unB; rw [hM]; simp
      rw [hM] at c2
      clear HP HG hI hM
      go_enter Try.func16, Try.ntmps16
      go_wp2_with fail
      refine c1.mono ?_
      rintro e w1 ⟨rfl, rfl⟩
      clear c1
      go_wp2_with fail
      refine c2.mono ?_
      rintro e w1 ⟨rfl, rfl⟩
      clear c2
      go_wp2_with fail
      go_ret2
      exact un_no HN.out _ _ _ _ (Below.refl _ _)
    | true =>
      rw [hM] at c2
      obtain ⟨n, rfl, hn6⟩ : ∃ n' : Nat, n = n' ∧ n' ≤ 65536 := by
        simp only [inB, Bool.and_eq_true, decide_eq_true_eq] at hI
        exact ⟨n.toNat, by omega, by omega⟩
      obtain ⟨M, rfl, hM1, hM2⟩ : ∃ M : Nat, m = M ∧ 1 ≤ M ∧ M ≤ 16 := by
        simp only [inB, Bool.and_eq_true, decide_eq_true_eq] at hM
        exact ⟨m.toNat, by omega, by omega, by omega⟩
      clear hI hM
      let W1 := w.alloc (.cells #[.slice a N cap, .int .i64 0] 46)
      have hb1 : Below w.heap.size w W1 := bnew _ _
      have HB1 := hide hb1
      have cT := takeBits_any w.heap.size a N cap 0 g hl HG.out (by omega) n M (by omega) (by omega) W1 (Bx.new [.slice a N cap, .int .i64 0] _ w) (HP.out.below hb1)
        (fun h0 b off ha => by
          rcases HP.out with h | ⟨b', off', ha', hc'⟩
          · exact absurd h h0
          · rw [ha'] at ha
            cases ha
            have := World.block_lt_of_cell? w _ (hc' 0 (by omega))
            have h9 : b < w.heap.size := this
            exact ⟨by omega, by simp [W1]; omega⟩) (by simp [W1])
      have HW1 : Hid (w.heap.size ≤ W1.heap.size) := hb1.size
      clear hb1
      go_enter Try.func16, Try.ntmps16
      go_wp2_with fail
      refine c1.mono ?_
      rintro e w1 ⟨rfl, rfl⟩
      clear c1
      go_wp2_with fail
      refine c2.mono ?_
      rintro e w1 ⟨rfl, rfl⟩
      clear c2
      go_wp2_with fail
      refine cT.mono ?_
      rintro e w2 ⟨c, v, hc1, hc2, hc3, rfl, ho, hk, -⟩
      obtain ⟨a3, c3, b3, rfl, ho3, hb3⟩ := ow_fl ho
      have HB2 : Hid (Below w1.heap.size w1 w2) := HB1.out.trans (hk.below (fun b hb => by omega) HW1.out)
      have hb3' : c = 0 ∨ w1.heap.size ≤ b3 := by
        rcases hb3 with h | h
        · exact .inl h
        · exact .inr (Nat.le_trans HW1.out h)
      clear cT ho hk hb3 HB1 HW1
      by_cases hcn : c = n
      · subst hcn
        have HSM := hide (un_same g N c M hM1 hM2 hn6 HG.out hc3)
        have cP := implPackTones_any a3 c c3 (rdF g N 0 M) (by omega) M w2 ho3.px
        have HU : Hid (unN g N c M = if unB g N c M = true then c else 0) := by show _ = _; unfold unN; rw [Int.toNat_natCast]
        have HFS : Hid (∀ i, i < c → rdF g N 0 M i = unS g N M i) := fun i hi => by
          unfold rdF unS unT
          rw [Int.toNat_natCast, show rdO N 0 M i = i * M by have := hc3 i hi; unfold rdO at *; omega]
        have HO3 := hide ho3
        have HB3 := hide hb3'
        have HPK : Hid (∀ k, k < pkN (rdF g N 0 M) c M → 0 ≤ pkS (rdF g N 0 M) c M k ∧ pkS (rdF g N 0 M) c M k ≤ 255) := fun k _ => byA_bd (tlB_bits _ _ _) k
        clear hc1 hc2 hc3 ho3 hb3'
        generalize pkN (rdF g N 0 M) c M = PN at *
        generalize pkS (rdF g N 0 M) c M = PS at *
        have dC : (((c : Nat) : Int) != (c : Int)) = false := by simp
        go_wp2_with fail
        refine cP.mono ?_
        rintro e w3 ⟨a4, c4, b4, rfl, ho4, -, hb4⟩
        have cE := bytesEqual_any a4 a PN c4 N cap PS g HPK.out HG.out w3 ho4.pxU (HP.out.below (bnext HB2.out (Nat.le_refl _) hb4))
        rw [HSM.out] at cE
        have HB4 : Hid (Below w1.heap.size w1 w3) := bnext HB2.out (Nat.le_refl _) hb4
        have HO4 : Hid (Ow a3 b3 c (rdF g N 0 M) w3) := HO3.out.below' hb4
        clear cP ho4 hb4 HB2 HO3 HPK
        go_wp2_with fail
        refine cE.mono ?_
        rintro e w4 ⟨rfl, rfl⟩
        clear cE
        cases hU : unB g N c M with
        | false =>
          have HN := hide hU
          clear hU HSM HU HFS HO4 HP HG
          have HR := hide (un_no HN.out w1 w4 none 0 HB4.out)
          go_wp2_with fail
          go_ret2
          exact HR.out
        | true =>
          have HR : Hid (LsF (unN g N c M) (unS g N M) (unB g N c M) w1 (.returned (.tuple #[.slice a3 c c3, .bool true])) w4) := by
            show LsF _ _ _ _ _ _
            rw [HU.out, hU, if_pos rfl]
            refine ⟨a3, c3, b3, rfl, ?_, HB3.out, HB4.out⟩
            rcases HO4.out with h | ⟨ha, hr⟩
            · exact .inl h
            · exact .inr ⟨ha, fun k hk => by rw [← HFS.out k hk]; exact hr k hk⟩
          clear hU HSM HU HFS HO4 HP HG HB3 HB4
          go_wp2_with fail
          go_ret2
          exact HR.out
      · have HN : Hid (unB g N n M = false) := un_short g N n M c hM1 (by omega) (by omega)
        have dC : (((c : Nat) : Int) != (n : Int)) = true := by simp; omega
        clear hc1 hc2 hc3 ho3 hb3' HP HG
        go_wp2_with fail
        go_ret2
        exact un_no HN.out _ _ _ _ HB2.out

end Go.Proofs.Ytpjdoponjfnkjaa
