/- The program's reader: all tones of rice. -/
import Derived.Test.YtebcclmilplfcaaXpv
namespace Go.Proofs.Ytebcclmilplfcaa
open Go.RowKit

theorem takeRiceAll (p q1 q2 : Nat) (a : Option Addr) (cap o : Nat) (B : List Int) (hN : B.length ≤ 1048576) (hg : ∀ k, k < B.length → 0 ≤ gB B k ∧ gB B k ≤ 255) (ho : o ≤ 8 * B.length) (n : Nat) (hn : n ≤ 65536) (K : Nat) (hK : K ≤ 255) (w : World) (hx : Bx p [.slice a B.length cap, .int .i64 o] w) (hP : PxU a B.length (gB B) w) (hap : B.length ≠ 0 → ∀ b off, a = some ⟨b, off, none⟩ → ¬ b = p ∧ b < w.heap.size) (hpw : p < w.heap.size)
    (hq1 : ¬ q1 = p) (hq2 : ¬ q2 = p) (hz1 : q1 < w.heap.size) (hz2 : q2 < w.heap.size) (h1 : Bx q1 [.pointer (some ⟨p, 0, none⟩)] w) (h2 : Bx q2 [.int .i64 K] w) :
    Calls Try.prog 55 #[.pointer (some ⟨p, 0, none⟩), .int .i64 n, .func (.func 57) #[] #[.pointer (some ⟨q1, 0, none⟩), .pointer (some ⟨q2, 0, none⟩)]] w fun e w' => ∃ (L : List Int) (v : Value), L.length ≤ n ∧ (∀ f, tnB f n → RcI B n K [] o f → L = fl f n) ∧ e = .returned v ∧ w'.ownsRow w.heap.size 2 1 v L.length (ints L) ∧ KpS (· = p) w w' := by
  refine (takeAllE_any p a B.length cap hN n (by omega) 57 takeRice1_fn #[.pointer (some ⟨q1, 0, none⟩), .pointer (some ⟨q2, 0, none⟩)] (· = p) w (fun b hb => by omega)
    (fun L o' wr => Bx p [.slice a B.length cap, .int .i64 (o' : Nat)] wr ∧ o' ≤ 8 * B.length ∧ PxU a B.length (gB B) wr ∧ Bx q1 [.pointer (some ⟨p, 0, none⟩)] wr ∧ Bx q2 [.int .i64 K] wr ∧ ∀ f, tnB f n → RcI B n K [] o f → RcI B n K L o' f) o
    ⟨hx, ho, hP, h1, h2, fun f _ h => h⟩
    (fun L o' wr h => h.1)
    (fun L o' wr w' h hb => ⟨h.1.below hb hpw, h.2.1, h.2.2.1.belowB hb (fun h0 b off ha => (hap h0 b off ha).2), h.2.2.2.1.below hb hz1, h.2.2.2.2.1.below hb hz2, h.2.2.2.2.2⟩)
    (fun L o' wr hl ho' hsz h => by
      refine (takeRice1_any p q1 q2 a B.length cap o' (gB B) hN hg h.2.1 K hK wr h.1 h.2.2.1 (fun h0 b off ha => (hap h0 b off ha).1) hq1 hq2 (by omega) (by omega) h.2.2.2.1 h.2.2.2.2.1).mono ?_
      rintro e w' ⟨x, o2, rfl, hk, hb, hs⟩
      have ho2 : o2 ≤ 8 * B.length := by obtain ⟨_, _, _, _, _, _, rfl⟩ := hs; omega
      exact ⟨x, o2, rfl, hk, hb, ho2, hk.pxU (fun h0 b off ha => (hap h0 b off ha).1) h.2.2.1, hk.bx hq1 (by omega) h.2.2.2.1, hk.bx hq2 (by omega) h.2.2.2.2.1, fun f hf hr => (h.2.2.2.2.2 f hf hr).step hf hl hs⟩)).mono ?_
  rintro e w' ⟨L, o', v, hl, hz, rfl, hv, hk, hI⟩
  exact ⟨L, v, hl, fun f hf hr => (hI.2.2.2.2.2 f hf hr).last hz, rfl, hv, hk⟩

set_option maxRecDepth 100000 in
theorem takeRice_any (p : Nat) (a : Option Addr) (cap o : Nat) (B : List Int) (hN : B.length ≤ 1048576) (hg : ∀ k, k < B.length → 0 ≤ gB B k ∧ gB B k ≤ 255) (ho : o ≤ 8 * B.length) (n : Nat) (hn : n ≤ 65536) (w : World) (hx : Bx p [.slice a B.length cap, .int .i64 o] w) (hP : PxU a B.length (gB B) w) (hap : B.length ≠ 0 → ∀ b off, a = some ⟨b, off, none⟩ → ¬ b = p ∧ b < w.heap.size) (hpw : p < w.heap.size) :
    Calls Try.prog 49 #[.pointer (some ⟨p, 0, none⟩), .int .i64 n] w fun e w' => ∃ (L : List Int) (v : Value), L.length ≤ n ∧ (∀ f, tnB f n → RcI B n (uvE (gB B) B.length o 8).toNat [] (min (o + 8) (8 * B.length)) f → L = fl f n) ∧ e = .returned v ∧ w'.ownsRow w.heap.size 2 1 v L.length (ints L) ∧ KpS (· = p) w w' := by
  let W1 := w.alloc (.cells #[.pointer (some ⟨p, 0, none⟩)] 70)
  have hW1 : Below w.heap.size w W1 := (Below.refl _ _).alloc (Nat.le_refl _) _
  have hs1 : W1.heap.size = w.heap.size + 1 := by simp [W1]
  have q1 : Bx w.heap.size [.pointer (some ⟨p, 0, none⟩)] W1 := Bx.new [.pointer (some ⟨p, 0, none⟩)] _ w
  have hU := uvE_bd (gB B) B.length o 8
  have c := take_any p a B.length cap o (gB B) hN hg ho 8 (by omega) W1 (hx.below hW1 hpw) (hP.below hW1) (fun h0 b off ha => (hap h0 b off ha).1)
  have e8 : ((8 : Nat) : Int) = 8 := rfl
  rw [e8] at c
  obtain ⟨K, hKU⟩ : ∃ K : Nat, uvE (gB B) B.length o 8 = K := ⟨(uvE (gB B) B.length o 8).toNat, by omega⟩
  rw [hKU] at hU c ⊢
  have hK : K ≤ 255 := by have := hU.2; simp only [Int.reducePow] at this; omega
  have HC : Hid (∀ w2, KpS (· = p) W1 w2 → Bx p [.slice a B.length cap, .int .i64 (min (o + 8) (8 * B.length) : Nat)] w2 → Calls Try.prog 55 #[.pointer (some ⟨p, 0, none⟩), .int .i64 n, .func (.func 57) #[] #[.pointer (some ⟨w.heap.size, 0, none⟩), .pointer (some ⟨w2.heap.size, 0, none⟩)]] (w2.alloc (.cells #[.int .i64 K] 2)) fun e w' => ∃ (L : List Int) (v : Value), e = .returned v ∧ Hid (L.length ≤ n ∧ (∀ f, tnB f n → RcI B n K [] (min (o + 8) (8 * B.length)) f → L = fl f n) ∧ w'.ownsRow w.heap.size 2 1 v L.length (ints L) ∧ KpS (· = p) w w')) := fun w2 hk2 hb2 => by
    have hsz := hk2.size
    have hb3 : Below w2.heap.size w2 (w2.alloc (.cells #[.int .i64 K] 2)) := (Below.refl _ _).alloc (Nat.le_refl _) _
    have hs3 : (w2.alloc (.cells #[.int .i64 K] 2)).heap.size = w2.heap.size + 1 := by simp
    refine (takeRiceAll p w.heap.size w2.heap.size a cap (min (o + 8) (8 * B.length)) B hN hg (by omega) n hn K hK _ (hb2.below hb3 (by omega)) (PxU.below (hk2.pxU (fun h0 b off ha => (hap h0 b off ha).1) (hP.below hW1)) hb3) (fun h0 b off ha => ⟨(hap h0 b off ha).1, by have := (hap h0 b off ha).2; omega⟩) (by omega) (by omega) (by omega) (by omega) (by omega) ((hk2.bx (by omega) (by omega) q1).below hb3 (by omega)) (Bx.new [.int .i64 K] 2 w2)).mono ?_
    rintro e w' ⟨L, v, h1, h2, rfl, h3, h4⟩
    refine ⟨L, v, rfl, h1, h2, ?_, ?_⟩
    · obtain ⟨h5, h6⟩ := h3
      refine ⟨h5, ?_⟩
      rcases h6 with h6 | ⟨b', cap', cur, hv, hB, hh, hn, hc, hs, ht⟩
      · exact .inl h6
      · exact .inr ⟨b', cap', cur, hv, by omega, hh, hn, hc, hs, ht⟩
    · exact (KpS.after hW1 hk2).trans (KpS.after hb3 h4)
  have HI : Hid (∀ w2, KpS (· = p) W1 w2 → (w2.alloc (.cells #[.int .i64 K] 2)).cell? ⟨w.heap.size, 0, none⟩ = some (.pointer (some ⟨p, 0, none⟩))) := fun w2 hk2 => by
    have hsz := hk2.size
    have hb3 : Below w2.heap.size w2 (w2.alloc (.cells #[.int .i64 K] 2)) := (Below.refl _ _).alloc (Nat.le_refl _) _
    exact (((hk2.bx (by omega) (by omega) q1).below hb3 (by omega)) 0 _ rfl).1
  rw [Int.toNat_natCast]
  clear hx hP hap hg q1 hW1 hs1 hU hKU e8
  go_enter Try.func49, Try.ntmps49
  go_wp2_with fail
  refine c.mono ?_
  rintro e w2 ⟨rfl, hk2, hb2⟩
  have c2 := HC.out w2 hk2 hb2
  have i1 := HI.out w2 hk2
  clear c HC hk2 hb2 HI
  go_wp2_with fail
  refine c2.mono ?_
  rintro e w' ⟨L, v, rfl, HF⟩
  clear c2
  go_wp2_with fail
  go_ret
  exact ⟨L, v, HF.out.1, HF.out.2.1, rfl, HF.out.2.2.1, HF.out.2.2.2⟩

end Go.Proofs.Ytebcclmilplfcaa
