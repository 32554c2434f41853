/- The program's reader: tones of so many bits. -/
import Derived.Test.YtebcclmilplfcaaUni
import Derived.Test.YtebcclmilplfcaaPkj
namespace Go.Proofs.Ytebcclmilplfcaa
open Go.RowKit

theorem PxU.belowB {a : Option Addr} {len B : Nat} {f : Nat → Int} {w w' : World} (h : PxU a len f w) (hb : Below B w w') (hB : len ≠ 0 → ∀ b off, a = some ⟨b, off, none⟩ → b < B) : PxU a len f w' := by
  by_cases h0 : len = 0
  · exact .inl h0
  rcases h with h | ⟨b, off, ha, hc⟩
  · exact .inl h
  · exact .inr ⟨b, off, ha, fun k hk => (hb.cell (p := ⟨b, off + k, none⟩) (hB h0 b off ha)).trans (hc k hk)⟩

/-- where the reader is behind i tones -/
def rdO (N o m i : Nat) : Nat := min (o + i * m) (8 * N)
/-- tone number i of the reader -/
def rdF (g : Nat → Int) (N o m : Nat) : Nat → Int := fun i => uvE g N (rdO N o m i) m

set_option maxRecDepth 100000 in
theorem takeBits_any (p : Nat) (a : Option Addr) (N cap o : Nat) (g : Nat → Int) (hN : N ≤ 1048576) (hg : ∀ k, k < N → 0 ≤ g k ∧ g k ≤ 255) (ho : o ≤ 8 * N) (n m : Nat) (hn : n ≤ 1048576) (hm : m ≤ 62) (w : World) (hx : Bx p [.slice a N cap, .int .i64 o] w) (hP : PxU a N g w) (hap : N ≠ 0 → ∀ b off, a = some ⟨b, off, none⟩ → b ≠ p ∧ b < w.heap.size) (hpw : p < w.heap.size) :
    Calls Try.prog 48 #[.pointer (some ⟨p, 0, none⟩), .int .i64 n, .int .i64 m] w fun e w' => ∃ (c : Nat) (v : Value), c ≤ n ∧ (c = n ∨ 8 * N ≤ rdO N o m c) ∧ (∀ i, i < c → rdO N o m i < 8 * N) ∧ e = .returned v ∧ w'.ownsRow w.heap.size 2 1 v c (ints (fl (rdF g N o m) c)) ∧ KpS (· = p) w w' ∧ Bx p [.slice a N cap, .int .i64 (rdO N o m c)] w' := by
  let W2 := (w.alloc (.cells #[.pointer (some ⟨p, 0, none⟩)] 70)).alloc (.cells #[.int .i64 m] 2)
  have hW2 : Below w.heap.size w W2 := ((Below.refl _ _).alloc (Nat.le_refl _) _).alloc (by simp) _
  have hs2 : W2.heap.size = w.heap.size + 2 := by simp [W2]
  have q1 : Bx w.heap.size [.pointer (some ⟨p, 0, none⟩)] W2 := (Bx.new [.pointer (some ⟨p, 0, none⟩)] _ w).below (bnew _ _) (by simp)
  have q2 : Bx (w.heap.size + 1) [.int .i64 m] W2 := by
    have := Bx.new [.int .i64 m] 2 (w.alloc (.cells #[.pointer (some ⟨p, 0, none⟩)] 70))
    simpa using this
  have c := takeAll_any p a N cap hN n hn 56 takeBits1_fn #[.pointer (some ⟨w.heap.size, 0, none⟩), .pointer (some ⟨w.heap.size + 1, 0, none⟩)] (· = p) W2 (fun b hb => by omega) (rdF g N o m) (rdO N o m)
    (fun i wr => Bx p [.slice a N cap, .int .i64 (rdO N o m i)] wr ∧ PxU a N g wr ∧ Bx w.heap.size [.pointer (some ⟨p, 0, none⟩)] wr ∧ Bx (w.heap.size + 1) [.int .i64 m] wr)
    ⟨by rw [show rdO N o m 0 = o by unfold rdO; omega]; exact hx.below hW2 hpw, hP.below hW2, q1, q2⟩
    (fun i wr h => h.1)
    (fun i wr w' h hb => ⟨h.1.below hb (by omega), h.2.1.belowB hb (fun h0 b off ha => by have := (hap h0 b off ha).2; omega), h.2.2.1.below hb (by omega), h.2.2.2.below hb (by omega)⟩)
    (fun i wr hi hO hsz h => by
      refine (takeBits1_any p w.heap.size (w.heap.size + 1) a N cap (rdO N o m i) g hN hg (by omega) m hm wr h.1 h.2.1 (fun h0 b off ha => (hap h0 b off ha).1) h.2.2.1 h.2.2.2).mono ?_
      rintro e w' ⟨rfl, hk, hb⟩
      refine ⟨rfl, hk, ?_, hk.pxU (fun h0 b off ha => (hap h0 b off ha).1) h.2.1, hk.bx (by omega) (by omega) h.2.2.1, hk.bx (by omega) (by omega) h.2.2.2⟩
      rw [show rdO N o m (i + 1) = min (rdO N o m i + m) (8 * N) by unfold rdO at *; rw [Nat.add_mul]; omega]
      exact hb)
  have HF : Hid (∀ w', KpS (· = p) W2 w' → KpS (· = p) w w') := fun w' h => KpS.after hW2 h
  have HB : Hid (∀ (v : Value) c xs (w' : World), w'.ownsRow W2.heap.size 2 1 v c xs → w'.ownsRow w.heap.size 2 1 v c xs) := fun v c xs w' h => by
    obtain ⟨h1, h2⟩ := h
    refine ⟨h1, ?_⟩
    rcases h2 with h2 | ⟨b', cap', cur, hv, hB, hh, hn, hc, hs, ht⟩
    · exact .inl h2
    · exact .inr ⟨b', cap', cur, hv, by omega, hh, hn, hc, hs, ht⟩
  clear hx hP hap hg q1 q2 hW2 hs2
  go_enter Try.func48, Try.ntmps48
  go_wp2_with fail
  refine c.mono ?_
  rintro e w' ⟨c', v, h1, h2, h3, rfl, h4, h5, h6, -⟩
  have HR : Hid (∃ (c : Nat) (v' : Value), c ≤ n ∧ (c = n ∨ 8 * N ≤ rdO N o m c) ∧ (∀ i, i < c → rdO N o m i < 8 * N) ∧ Ending.returned v = .returned v' ∧ w'.ownsRow w.heap.size 2 1 v' c (ints (fl (rdF g N o m) c)) ∧ KpS (· = p) w w' ∧ Bx p [.slice a N cap, .int .i64 (rdO N o m c)] w') :=
    ⟨c', v, h1, h2, h3, rfl, HB.out _ _ _ _ h4, HF.out _ h5, h6⟩
  clear c h1 h2 h3 h4 h5 h6 HB HF
  go_wp2_with fail
  go_ret
  exact HR.out


end Go.Proofs.Ytebcclmilplfcaa
