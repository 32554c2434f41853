/- The specification's reader: small numbers, and what it finds where a codec made the bytes. -/
import Derived.Test.YtebcclmilplfcaaXpy
namespace Go.Proofs.Ytebcclmilplfcaa
open Go.RowKit

/-- a small number that is taken at a place: the number and the place behind it, or 0 and -1 -/
def tkR (g : Nat → Int) (N at' : Nat) : Nat → Nat → Int → Int × Int
  | 0, _, _ => (0, -1)
  | r + 1, k, acc =>
    if at' + k < N then
      if g (at' + k) < 128 then
        if g (at' + k) = 0 ∧ 0 < k then (0, -1) else (acc + 128 ^ k * (g (at' + k) % 128), at' + k + 1)
      else tkR g N at' r (k + 1) (acc + 128 ^ k * (g (at' + k) % 128))
    else (0, -1)
def tkV (g : Nat → Int) (N at' : Nat) : Int := (tkR g N at' 3 0 0).1
def tkO (g : Nat → Int) (N at' : Nat) : Int := (tkR g N at' 3 0 0).2
theorem tkR_bd (g : Nat → Int) (N at' : Nat) (hg : ∀ k, k < N → 0 ≤ g k ∧ g k ≤ 255) : ∀ (r k : Nat) (acc : Int), 0 ≤ acc → acc < 128 ^ k → (tkR g N at' r k acc = (0, -1)) ∨ (0 ≤ (tkR g N at' r k acc).1 ∧ (tkR g N at' r k acc).1 < 128 ^ (k + r) ∧ (at' : Int) < (tkR g N at' r k acc).2 ∧ (tkR g N at' r k acc).2 ≤ N)
  | 0, k, acc, h0, h1 => .inl rfl
  | r + 1, k, acc, h0, h1 => by
    simp only [tkR]
    split
    · rename_i hlt
      have z := hg _ hlt
      generalize g (at' + k) = Z at *
      have hp : (0 : Int) < 128 ^ k := Int.pow_pos (by decide)
      have hm0 : 0 ≤ 128 ^ k * (Z % 128) := Int.mul_nonneg (by omega) (by omega)
      have hm1 : 128 ^ k * (Z % 128) ≤ 128 ^ k * 127 := Int.mul_le_mul_of_nonneg_left (by omega) (by omega)
      have h2 : acc + 128 ^ k * (Z % 128) < 128 ^ (k + 1) := by rw [Int.pow_succ]; omega
      have hle : (128 : Int) ^ (k + 1) ≤ 128 ^ (k + (r + 1)) := by exact_mod_cast Nat.pow_le_pow_right (by decide) (by omega : k + 1 ≤ k + (r + 1))
      split
      · split
        · exact .inl rfl
        · exact .inr ⟨by simp only; omega, by simp only; omega, by simp only; omega, by simp only; omega⟩
      · have ih := tkR_bd g N at' hg r (k + 1) (acc + 128 ^ k * (Z % 128)) (by omega) h2
        rw [show k + 1 + r = k + (r + 1) by omega] at ih
        exact ih
    · exact .inl rfl
theorem tk_bd (g : Nat → Int) (N at' : Nat) (hg : ∀ k, k < N → 0 ≤ g k ∧ g k ≤ 255) : (tkV g N at' = 0 ∧ tkO g N at' = -1) ∨ (0 ≤ tkV g N at' ∧ tkV g N at' < 2097152 ∧ (at' : Int) < tkO g N at' ∧ tkO g N at' ≤ N) := by
  have := tkR_bd g N at' hg 3 0 0 (by omega) (by decide)
  unfold tkV tkO
  rcases this with h | h
  · rw [h]; exact .inl ⟨rfl, rfl⟩
  · exact .inr ⟨h.1, by simpa using h.2.1, h.2.2⟩

set_option maxRecDepth 100000 in
set_option maxHeartbeats 4000000 in
theorem l13Take_any (a : Option Addr) (N cap : Nat) (g : Nat → Int) (hN : N ≤ 1048576) (hg : ∀ k, k < N → 0 ≤ g k ∧ g k ≤ 255) (at' : Nat) (ha : at' ≤ N) (w : World) (hP : PxU a N g w) :
    Calls Try.prog 36 #[.slice a N cap, .int .i64 at'] w fun e w' => e = .returned (.tuple #[.int .i64 (tkV g N at'), .int .i64 (tkO g N at')]) ∧ w' = w := by
  have HP := hide hP
  have HG := hide hg
  clear hP hg
  go_enter Try.func36, Try.ntmps36
  go_wp2_with fail
  go_loopw [6, 7, 8, 9] (fun v q j _ wr => ∃ (k : Nat) (acc F : Int), k ≤ 3 ∧ j = .int .i64 k ∧ v = .int .i64 acc ∧ q = .int .i64 F ∧ Hid (F = 128 ^ k) ∧ 0 ≤ acc ∧ acc < F ∧ 1 ≤ F ∧ F ≤ 2097152 ∧ (k < 3 → F ≤ 16384) ∧ Hid (tkR g N at' (3 - k) k acc = tkR g N at' 3 0 0) ∧ wr = w) (fun _ _ j _ _ => 3 - (intOf j).toNat)
  case atStart => exact ⟨0, 0, 1, by omega, rfl, rfl, rfl, hide rfl, by omega, by omega, by omega, by omega, fun _ => by omega, hide rfl, rfl⟩
  case round =>
    obtain ⟨k, acc, F, hk, rfl, rfl, rfl, HF, h0, h1, hF1, hF2, hF3, HT, rfl⟩ := hrel
    by_cases hlt : k < 3
    · have hlt' : (k : Int) < 3 := by omega
      have hF4 := hF3 hlt
      have hs : 3 - k = (3 - (k + 1)) + 1 := by omega
      have HT2 : Hid (tkR g N at' 3 0 0 = if at' + k < N then (if g (at' + k) < 128 then (if g (at' + k) = 0 ∧ 0 < k then (0, -1) else (acc + F * (g (at' + k) % 128), (at' : Int) + k + 1)) else tkR g N at' (3 - (k + 1)) (k + 1) (acc + F * (g (at' + k) % 128))) else (0, -1)) := by
        show _ = _
        rw [← HT.out, hs, HF.out]
        rfl
      have HF2 : Hid (128 * F = 128 ^ (k + 1)) := by show _ = _; rw [HF.out, Int.pow_succ, Int.mul_comm]
      have HF5 : Hid (k + 1 < 3 → 128 * F ≤ 16384) := fun h9 => by
        have q := HF.out
        obtain rfl | rfl : k = 0 ∨ k = 1 := by omega
        · simp only [Int.pow_zero] at q; omega
        · simp only [Int.pow_succ, Int.pow_zero] at q; omega
      clear HT HF hs hF3
      by_cases hin : at' + k < N
      · rw [if_pos hin] at HT2
        obtain ⟨b, off, rfl, hz⟩ := HP.out.at hin
        have z := HG.out _ hin
        have hin' : (at' : Int) + k < N := by omega
        have e0 : IntKind.i64.wrap ((at' : Int) + (k : Int)) = (at' : Int) + (k : Int) := by rw [IntKind.wrap_i64]; omega
        generalize g (at' + k) = Z at *
        have em : Z.tmod 128 = Z % 128 := Int.tmod_eq_emod_of_nonneg z.1
        have hm0 : 0 ≤ F * (Z % 128) := Int.mul_nonneg (by omega) (by omega)
        have hm1 : F * (Z % 128) ≤ F * 127 := Int.mul_le_mul_of_nonneg_left (by omega) (by omega)
        have em1 : IntKind.i64.wrap (F * (Z % 128)) = F * (Z % 128) := by rw [IntKind.wrap_i64]; omega
        have em2 : IntKind.i64.wrap (acc + F * (Z % 128)) = acc + F * (Z % 128) := by rw [IntKind.wrap_i64]; omega
        have hM2 : acc + F * (Z % 128) < 128 * F := by omega
        have HM := hide hM2
        clear HP HG hM2
        by_cases hsm : Z < 128
        · rw [if_pos hsm] at HT2
          by_cases hzz : Z = 0 ∧ 0 < k
          · rw [if_pos hzz] at HT2
            have HR : Hid (tkV g N at' = 0 ∧ tkO g N at' = -1) := by unfold tkV tkO; rw [HT2.out]; exact ⟨rfl, rfl⟩
            obtain ⟨rfl, hk0⟩ := hzz
            have hk0' : (0 : Int) < k := by omega
            clear HT2 HF2 HM
            go_wp2_with fail
            go_ret2
            exact ⟨by rw [HR.out.1, HR.out.2]; rfl, rfl⟩
          · rw [if_neg hzz] at HT2
            have HR : Hid (tkV g N at' = acc + F * (Z % 128) ∧ tkO g N at' = (at' : Int) + k + 1) := by unfold tkV tkO; rw [HT2.out]; exact ⟨rfl, rfl⟩
            clear HT2 HF2 HM
            by_cases hZ0 : Z = 0
            · have hk0 : ¬ (0 : Int) < k := by omega
              have hzb : (Z == 0) = true := by simp [hZ0]
              clear hzz hZ0
              go_wp2_with fail
              go_ret2
              exact ⟨by rw [HR.out.1, HR.out.2]; rfl, rfl⟩
            · have hzb : (Z == 0) = false := by simp [hZ0]
              clear hzz
              go_wp2_with fail
              go_ret2
              exact ⟨by rw [HR.out.1, HR.out.2]; rfl, rfl⟩
        · rw [if_neg hsm] at HT2
          have HT3 : Hid (tkR g N at' (3 - (k + 1)) (k + 1) (acc + F * (Z % 128)) = tkR g N at' 3 0 0) := HT2.out.symm
          clear HT2
          go_wp2_with fail
          go_roundw
          case rel => exact ⟨k + 1, acc + F * (Z % 128), 128 * F, by omega, by go_num, rfl, rfl, HF2, by omega, HM.out, by omega, by omega, HF5.out, HT3, trivial⟩
          case measure => simp [intOf]; omega
      · rw [if_neg hin] at HT2
        have HR : Hid (tkV g N at' = 0 ∧ tkO g N at' = -1) := by unfold tkV tkO; rw [HT2.out]; exact ⟨rfl, rfl⟩
        clear HT2 HF2 HP HG
        go_wp2_with fail
        go_ret2
        exact ⟨by rw [HR.out.1, HR.out.2]; rfl, rfl⟩
    · obtain rfl : k = 3 := by omega
      have HR : Hid (tkV g N at' = 0 ∧ tkO g N at' = -1) := by unfold tkV tkO; rw [← HT.out]; exact ⟨rfl, rfl⟩
      clear HT HP HG HF
      go_wp2_with fail
      go_ret2
      exact ⟨by rw [HR.out.1, HR.out.2]; rfl, rfl⟩

theorem tkR_read (B P : List Int) : ∀ (r k : Nat) (acc : Int) (v : Nat) (X Q : List Int), X.length = k → (smL v).length ≤ r → (k = 0 ∨ 1 ≤ v) → B = P ++ X ++ smL v ++ Q → tkR (gB B) B.length P.length r k acc = (acc + 128 ^ k * (v : Int), (P.length : Int) + k + (smL v).length)
  | 0, k, acc, v, X, Q, _, h, _, _ => by
    exfalso
    by_cases hb : 127 < v
    · rw [smL_big hb] at h; simp at h
    · rw [smL_low (by omega)] at h; simp at h
  | r + 1, k, acc, v, X, Q, hX, h, hv, hB => by
    by_cases hb : 127 < v
    · have e : B = (P ++ X) ++ (128 + (v : Int) % 128) :: (smL (v / 128) ++ Q) := by rw [hB, smL_big hb, List.append_assoc]; rfl
      have hg : gB B (P.length + k) = 128 + (v : Int) % 128 := by
        have := gB_mid (P ++ X) (128 + (v : Int) % 128) (smL (v / 128) ++ Q)
        rw [← e, List.length_append, hX] at this
        exact this
      have hlen : P.length + k < B.length := by rw [e, List.length_append, List.length_cons, List.length_append]; omega
      simp only [tkR]
      rw [if_pos hlen, hg, if_neg (by omega)]
      have ih := tkR_read B P r (k + 1) (acc + 128 ^ k * ((128 + (v : Int) % 128) % 128)) (v / 128) (X ++ [128 + (v : Int) % 128]) Q (by rw [List.length_append, hX]; rfl) (by rw [smL_big hb] at h; simp at h; omega) (.inr (by omega)) (by rw [e]; simp)
      rw [ih]
      refine Prod.ext ?_ ?_
      · show _ = _
        rw [Int.pow_succ]
        have h1 : (128 + (v : Int) % 128) % 128 = (v : Int) % 128 := by omega
        have h3 : (v : Int) = (v : Int) % 128 + 128 * ((v / 128 : Nat) : Int) := by omega
        rw [h1]
        conv => rhs; rw [h3]
        rw [Int.mul_add, Int.mul_assoc, Int.add_assoc]
      · show _ = _
        rw [smL_big hb]
        simp
        omega
    · have e : B = (P ++ X) ++ (v : Int) :: Q := by rw [hB, smL_low (by omega), List.append_assoc]; rfl
      have hg : gB B (P.length + k) = (v : Int) := by
        have := gB_mid (P ++ X) (v : Int) Q
        rw [← e, List.length_append, hX] at this
        exact this
      have hlen : P.length + k < B.length := by rw [e, List.length_append, List.length_cons, List.length_append]; omega
      simp only [tkR]
      rw [if_pos hlen, hg, if_pos (by omega), if_neg (by omega), smL_low (by omega)]
      refine Prod.ext ?_ ?_
      · show _ = _
        rw [show (v : Int) % 128 = v by omega]
      · show _ = _
        simp
theorem tk_read (v : Nat) (hv : v ≤ 2097151) (P Q B : List Int) (hB : B = P ++ smL v ++ Q) : tkV (gB B) B.length P.length = v ∧ tkO (gB B) B.length P.length = ((P ++ smL v).length : Nat) := by
  have := tkR_read B P 3 0 0 v [] Q rfl (smL_len v hv).2 (.inl rfl) (by rw [hB]; simp)
  unfold tkV tkO
  rw [this]
  simp

theorem fl_in {f : Nat → Int} {n : Nat} {L : List Int} {x : Int} (hf : tnB f n) (hl : L.length < n) (h : L ++ [x] = fl f (L.length + 1)) : x = f L.length ∧ 0 ≤ x ∧ x ≤ 65535 := by
  simp only [fl] at h
  have := (List.append_inj' h rfl).2
  simp only [List.cons.injEq, and_true] at this
  subst this
  exact ⟨rfl, hf _ hl⟩
/-- plain: so many tones are through, the reader is at o -/
def JP (n : Nat) (L : List Int) (o : Nat) (f : Nat → Int) : Prop := L.length ≤ n ∧ L = fl f L.length ∧ o = (smL n).length + 2 * L.length
theorem JP.step {B : List Int} {n : Nat} {L : List Int} {o : Nat} {f : Nat → Int} (hf : tnB f n) (hB : B = smL n ++ plL f n) (h : JP n L o f) (hl : L.length < n) :
    o + 2 ≤ B.length ∧ JP n (L ++ [gB B o + 256 * gB B (o + 1)]) (o + 2) f := by
  obtain ⟨_, h2, rfl⟩ := h
  obtain ⟨R, hR⟩ := plL_pre f n (L.length + 1) (by omega)
  have a := hf L.length hl
  have e : B = (smL n ++ plL f L.length) ++ (f L.length % 256) :: (f L.length / 256 % 256) :: R := by rw [hB, hR]; simp [plL]
  have e2 : B = (smL n ++ plL f L.length ++ [f L.length % 256]) ++ (f L.length / 256 % 256) :: R := by rw [e]; simp
  have hlen : (smL n ++ plL f L.length).length = (smL n).length + 2 * L.length := by rw [List.length_append, plL_len]
  have g1 := gB_mid (smL n ++ plL f L.length) (f L.length % 256) ((f L.length / 256 % 256) :: R)
  rw [← e, hlen] at g1
  have g2 := gB_mid (smL n ++ plL f L.length ++ [f L.length % 256]) (f L.length / 256 % 256) R
  rw [← e2, List.length_append, hlen] at g2
  have g3 : gB B ((smL n).length + 2 * L.length + 1) = f L.length / 256 % 256 := g2
  have hv : gB B ((smL n).length + 2 * L.length) + 256 * gB B ((smL n).length + 2 * L.length + 1) = f L.length := by rw [g1, g3]; omega
  have hlb : B.length = (smL n).length + 2 * n := by rw [hB, List.length_append, plL_len]
  refine ⟨by omega, ?_⟩
  rw [hv]
  have hl2 : (L ++ [f L.length]).length = L.length + 1 := by simp
  refine ⟨by omega, ?_, by omega⟩
  rw [hl2]; simp only [fl]; rw [← h2]
/-- steps -/
def JS (n : Nat) (L : List Int) (o : Nat) (last : Int) (f : Nat → Int) : Prop := L.length ≤ n ∧ L = fl f L.length ∧ o = (smL n ++ stL f L.length).length ∧ last = aheadV f L.length
theorem JS.step {B : List Int} {n : Nat} {L : List Int} {o : Nat} {last : Int} {f : Nat → Int} (hf : tnB f n) (hB : B = smL n ++ stL f n) (h : JS n L o last f) (hl : L.length < n) :
    0 ≤ tkO (gB B) B.length o ∧ 0 ≤ spA last (tkV (gB B) B.length o) ∧ spA last (tkV (gB B) B.length o) ≤ 65535 ∧ ∀ o2 : Nat, tkO (gB B) B.length o = o2 → JS n (L ++ [spA last (tkV (gB B) B.length o)]) o2 (spA last (tkV (gB B) B.length o)) f := by
  obtain ⟨_, h2, rfl, rfl⟩ := h
  obtain ⟨R, hR⟩ := stL_pre f n (L.length + 1) (by omega)
  have a := hf L.length hl
  have b := aheadV_bd hf L.length (by omega)
  have c := stpV_le a.1 a.2 b.1 b.2
  have t := tk_read (stpV (f L.length) (aheadV f L.length)) (by omega) (smL n ++ stL f L.length) R B (by rw [hB, hR]; simp [stL])
  rw [t.1, t.2, spA_stp]
  refine ⟨by omega, a.1, a.2, fun o2 ho => ?_⟩
  have ho' : o2 = (smL n ++ stL f L.length ++ smL (stpV (f L.length) (aheadV f L.length))).length := by exact_mod_cast ho.symm
  have hl2 : (L ++ [f L.length]).length = L.length + 1 := by simp
  refine ⟨by omega, ?_, ?_, ?_⟩
  · rw [hl2]; simp only [fl]; rw [← h2]
  · rw [hl2, ho']; simp only [stL, List.append_assoc]
  · rw [hl2]; rfl
/-- runs -/
theorem RnI.tk {B : List Int} {n : Nat} {L : List Int} {o : Nat} {f : Nat → Int} (hf : tnB f n) (hn : n ≤ 65536) (h : RnI B n L (8 * o) f) (hl : L.length < n) :
    ∃ o2 o3 r : Nat, tkO (gB B) B.length o = o2 ∧ tkV (gB B) B.length o = r ∧ 1 ≤ r ∧ r + L.length ≤ n ∧ tkO (gB B) B.length o2 = o3 ∧ 0 ≤ tkV (gB B) B.length o2 ∧ tkV (gB B) B.length o2 ≤ 65535 ∧ RnI B n (L ++ List.replicate r (tkV (gB B) B.length o2)) (8 * o3) f := by
  obtain ⟨_, h2, P, hB, ho⟩ := h
  obtain rfl : o = P.length := by omega
  obtain ⟨m, hm⟩ : ∃ m, n - L.length = m + 1 := ⟨n - L.length - 1, by omega⟩
  have e1 : n - (m + 1) = L.length := by omega
  have e2 : n - m = L.length + 1 := by omega
  rw [hm, rnL, e1, e2] at hB
  have hc := cntR_le f (f L.length) m (L.length + 1)
  have hci := cntR_is f (f L.length) m (L.length + 1)
  generalize cntR f (f L.length) (L.length + 1) m = r at *
  have a := hf L.length hl
  have t1 := tk_read (1 + r) (by omega) P (smL (f L.length).toNat ++ rnL f n (m - r)) B (by rw [hB]; simp)
  have t2 := tk_read (f L.length).toNat (by omega) (P ++ smL (1 + r)) (rnL f n (m - r)) B (by rw [hB]; simp)
  have e3 : (((f L.length).toNat : Nat) : Int) = f L.length := by omega
  have hlen : (L ++ List.replicate (1 + r) (f L.length)).length = L.length + (1 + r) := by simp
  refine ⟨(P ++ smL (1 + r)).length, (P ++ smL (1 + r) ++ smL (f L.length).toNat).length, 1 + r, t1.2, t1.1, by omega, by omega, t2.2, by rw [t2.1]; omega, by rw [t2.1]; omega, ?_⟩
  rw [t2.1, e3]
  refine ⟨by omega, ?_, P ++ smL (1 + r) ++ smL (f L.length).toNat, ?_, rfl⟩
  · rw [hlen, fl_app f L.length (1 + r) (fun k hk => by
      match k with
      | 0 => rfl
      | k + 1 => have := hci k (by omega); rwa [show L.length + 1 + k = L.length + (k + 1) by omega] at this), ← h2]
  · rw [hlen, hB, show n - (L.length + (1 + r)) = m - r by omega]; simp
/-- rice: there is room for the tone that is read -/
theorem RcI.room {B : List Int} {n K : Nat} {L : List Int} {o : Nat} {f : Nat → Int} (hf : tnB f n) (hi : RcI B n K L o f) (hl : L.length < n) {h : Nat} (h1 : ∀ k, k < h → bitE (gB B) B.length (o + k) = 1) (h0 : bitE (gB B) B.length (o + h) = 0) : o + h + 1 + K ≤ 8 * B.length := by
  obtain ⟨hK, _, h2, P, hB, rfl⟩ := hi
  have a := hf L.length hl
  obtain ⟨R, hR⟩ := rcB_pre f K n (L.length + 1) (by omega)
  have hXl := rcB_len f K n
  rw [← hXl] at hB
  have bt := bits_of (rcB f K n) (rcB_bits f K n) P B hB
  have hBl : B.length = P.length + nB (rcB f K n).length := by rw [hB, List.length_append, fl_len]
  have hnB : (rcB f K n).length ≤ 8 * nB (rcB f K n).length := by unfold nB; omega
  have hz : rcN f K (L.length + 1) ≤ (rcB f K n).length := by rw [hXl]; exact rcN_mono f K (by omega)
  obtain ⟨D, hD⟩ : ∃ D : Nat, f L.length / 2 ^ K = D := ⟨(f L.length / 2 ^ K).toNat, by have := Int.ediv_nonneg a.1 (Int.le_of_lt (pow_pos2 K)); omega⟩
  have hr : rcN f K (L.length + 1) = rcN f K L.length + (D + 1 + K) := by simp only [rcN]; rw [hD]; simp
  have hX : ∀ j, j < D + 1 + K → (rcB f K n).getD (rcN f K L.length + j) 0 = (ones D ++ [0] ++ bitK (f L.length) K).getD j 0 := fun j hj => by
    rw [hR]
    simp only [rcB]
    rw [hD, Int.toNat_natCast, List.append_assoc, getD_cat, if_neg (by rw [rcB_len]; omega), rcB_len, show rcN f K L.length + j - rcN f K L.length = j by omega, getD_cat, if_pos (by simp only [List.length_append, ones_len, bitK_len, List.length_cons, List.length_nil]; omega)]
  have hq0 : bitE (gB B) B.length (8 * P.length + rcN f K L.length + D) = 0 := by
    rw [Nat.add_assoc, bt _ (by omega), hX D (by omega), getD_cat, if_pos (by simp [ones_len]), getD_cat, if_neg (by rw [ones_len]; omega), ones_len]
    simp
  have hh : h ≤ D := by
    by_cases e2 : D < h
    · have := h1 D e2; omega
    · omega
  omega

end Go.Proofs.Ytebcclmilplfcaa
