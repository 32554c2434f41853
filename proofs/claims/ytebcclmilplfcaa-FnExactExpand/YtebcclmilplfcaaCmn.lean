/- What the codecs write: numbers alone. -/
import Derived.Test.YtebcclmilplfcaaPki
import Derived.Test.YtebcclmilplfcaaWsm
namespace Go.Proofs.Ytebcclmilplfcaa
open Go.RowKit

/-- the bits of bytes -/
def bb : List Int → List Int
  | [] => []
  | x :: B => bitK x 8 ++ bb B
theorem bb_app (A B : List Int) : bb (A ++ B) = bb A ++ bb B := by
  induction A with
  | nil => rfl
  | cons x A ih => simp only [List.cons_append, bb, ih, List.append_assoc]
theorem bb_len (B : List Int) : (bb B).length = 8 * B.length := by
  induction B with
  | nil => rfl
  | cons x B ih => simp only [bb, List.length_append, bitK_len, ih, List.length_cons]; omega
theorem bb_bits (B : List Int) : isBits (bb B) := by
  induction B with
  | nil => exact isBits_nil
  | cons x B ih => exact (bitK_bits x 8).cat ih
theorem bb_one (x : Int) : bb [x] = bitK x 8 := by simp only [bb, List.append_nil]
def isBy (B : List Int) : Prop := ∀ x ∈ B, 0 ≤ x ∧ x ≤ 255
theorem isBy.app {A B : List Int} (h : isBy A) (g : isBy B) : isBy (A ++ B) := fun x hx => by
  rcases List.mem_append.1 hx with e | e
  · exact h x e
  · exact g x e
theorem isBy_nil : isBy [] := fun x hx => by cases hx
theorem isBy_one {x : Int} (h0 : 0 ≤ x) (h1 : x ≤ 255) : isBy [x] := fun y hy => by
  simp only [List.mem_singleton] at hy; subst hy; exact ⟨h0, h1⟩
theorem bitv_shift (P M : List Int) (o : Nat) : ∀ m, bitv (P ++ M) (P.length + o) m = bitv M o m
  | 0 => rfl
  | m + 1 => by
    simp only [bitv]
    rw [bitv_shift P M o m, getD_cat, if_neg (by omega), show P.length + o + m - P.length = o + m by omega]
theorem bitv_head (x : Int) (M : List Int) : bitv (bitK x 8 ++ M) 0 8 = x % 256 := by
  have h : ∀ k, k < 8 → (bitK x 8 ++ M).getD k 0 = x / 2 ^ k % 2 := fun k hk => by
    rw [getD_cat, if_pos (by rw [bitK_len]; exact hk)]
    exact fl_at _ _ _ hk
  simp only [bitv, Nat.zero_add]
  rw [h 0 (by omega), h 1 (by omega), h 2 (by omega), h 3 (by omega), h 4 (by omega), h 5 (by omega), h 6 (by omega), h 7 (by omega)]
  omega
theorem nB_8 (m : Nat) : nB (8 + m) = nB m + 1 := by unfold nB; omega
theorem fl_cons (f : Nat → Int) : ∀ n, fl f (n + 1) = f 0 :: fl (fun k => f (k + 1)) n
  | 0 => rfl
  | n + 1 => by
    have := fl_cons f n
    simp only [fl] at this ⊢
    rw [this]
    rfl
theorem fl_congr {f g : Nat → Int} : ∀ {n}, (∀ k, k < n → f k = g k) → fl f n = fl g n
  | 0, _ => rfl
  | n + 1, h => by simp only [fl]; rw [fl_congr (fun k hk => h k (by omega)), h n (by omega)]
theorem fl_head (x : Int) (h0 : 0 ≤ x) (h1 : x ≤ 255) (M : List Int) : fl (byA (bitK x 8 ++ M)) (nB (bitK x 8 ++ M).length) = x :: fl (byA M) (nB M.length) := by
  rw [List.length_append, bitK_len, nB_8, fl_cons]
  refine congr (congrArg List.cons ?_) (fl_congr fun k _ => ?_)
  · show bitv _ _ _ = _
    rw [Nat.mul_zero, bitv_head]; omega
  · show bitv _ _ _ = bitv _ _ _
    have := bitv_shift (bitK x 8) M (8 * k) 8
    rw [bitK_len] at this
    rw [show 8 * (k + 1) = 8 + 8 * k by omega]
    exact this
/-- the bytes of bytes' bits and of bits behind them -/
theorem fl_bb (B : List Int) (hB : isBy B) (R : List Int) : fl (byA (bb B ++ R)) (nB (bb B ++ R).length) = B ++ fl (byA R) (nB R.length) := by
  induction B with
  | nil => rfl
  | cons x B ih =>
    have h := hB x (List.mem_cons_self ..)
    simp only [bb, List.append_assoc]
    rw [fl_head x h.1 h.2, ih (fun y hy => hB y (List.mem_cons_of_mem _ hy))]
    rfl
theorem fl_bb0 (B : List Int) (hB : isBy B) : fl (byA (bb B)) (nB (bb B).length) = B := by
  have := fl_bb B hB []
  rw [List.append_nil] at this
  rw [this]
  simp [nB, fl]
theorem bitK_mod (v : Int) : bitK v 8 = bitK (v % 256) 8 := fl_congr fun k hk => by
  obtain rfl | rfl | rfl | rfl | rfl | rfl | rfl | rfl : k = 0 ∨ k = 1 ∨ k = 2 ∨ k = 3 ∨ k = 4 ∨ k = 5 ∨ k = 6 ∨ k = 7 := by omega
  all_goals (simp only [Int.reducePow]; omega)
theorem bitK_16 (v : Int) : bitK v 16 = bb [v % 256, v / 256 % 256] := by
  simp only [bb, List.append_nil, bitK, fl, List.nil_append, List.cons_append]
  have e : ∀ k : Nat, k < 8 → v % 256 / 2 ^ k % 2 = v / 2 ^ k % 2 := fun k hk => by
    obtain rfl | rfl | rfl | rfl | rfl | rfl | rfl | rfl : k = 0 ∨ k = 1 ∨ k = 2 ∨ k = 3 ∨ k = 4 ∨ k = 5 ∨ k = 6 ∨ k = 7 := by omega
    all_goals (simp only [Int.reducePow]; omega)
  have g : ∀ k : Nat, k < 8 → v / 256 % 256 / 2 ^ k % 2 = v / 2 ^ (8 + k) % 2 := fun k hk => by
    obtain rfl | rfl | rfl | rfl | rfl | rfl | rfl | rfl : k = 0 ∨ k = 1 ∨ k = 2 ∨ k = 3 ∨ k = 4 ∨ k = 5 ∨ k = 6 ∨ k = 7 := by omega
    all_goals (simp only [Nat.reduceAdd, Int.reducePow]; omega)
  rw [e 0 (by omega), e 1 (by omega), e 2 (by omega), e 3 (by omega), e 4 (by omega), e 5 (by omega), e 6 (by omega), e 7 (by omega), g 0 (by omega), g 1 (by omega), g 2 (by omega), g 3 (by omega), g 4 (by omega), g 5 (by omega), g 6 (by omega), g 7 (by omega)]
set_option maxRecDepth 100000 in
theorem or_128 (x : Int) (h0 : 0 ≤ x) (h1 : x < 4294967296) : bits .or .i64 x 128 % 256 = 128 + x % 128 := by
  obtain ⟨n, rfl⟩ : ∃ n : Nat, x = n := ⟨x.toNat, by omega⟩
  have key : (BitVec.ofInt 64 (n : Int) ||| BitVec.ofInt 64 128).toNat = n ||| 128 := by
    rw [BitVec.toNat_or, BitVec.toNat_ofInt]
    congr 1
    omega
  have hlt : n ||| 128 < 4294967296 := Nat.or_lt_two_pow (n := 32) (by omega) (by omega)
  show IntKind.i64.wrap ((BitVec.ofInt 64 (n : Int) ||| BitVec.ofInt 64 128).toNat : Nat) % 256 = _
  rw [key, IntKind.wrap_i64]
  have hm : (n ||| 128) % 256 = 128 + n % 128 := by
    have h2 : (n ||| 128) % 2 ^ 8 = (n % 2 ^ 8) ||| (128 % 2 ^ 8) := Nat.or_mod_two_pow
    have h3 : n % 256 < 256 := by omega
    have h4 : n % 128 = n % 256 % 128 := by omega
    rw [h4]
    have h5 : (n ||| 128) % 256 = (n % 256) ||| 128 := h2
    rw [h5]
    generalize n % 256 = r at h3
    revert r
    decide +kernel
  omega
theorem or_lt (x : Int) (h0 : 0 ≤ x) (h1 : x < 4294967296) : 0 ≤ bits .or .i64 x 128 ∧ bits .or .i64 x 128 < 4294967296 := by
  obtain ⟨n, rfl⟩ : ∃ n : Nat, x = n := ⟨x.toNat, by omega⟩
  have key : (BitVec.ofInt 64 (n : Int) ||| BitVec.ofInt 64 128).toNat = n ||| 128 := by
    rw [BitVec.toNat_or, BitVec.toNat_ofInt]
    congr 1
    omega
  have hlt : n ||| 128 < 4294967296 := Nat.or_lt_two_pow (n := 32) (by omega) (by omega)
  have e : bits .or .i64 (n : Int) 128 = IntKind.i64.wrap ((BitVec.ofInt 64 (n : Int) ||| BitVec.ofInt 64 128).toNat : Nat) := rfl
  rw [e, key, IntKind.wrap_i64]
  omega

/-- the bytes of a small number -/
def smL (v : Nat) : List Int := if 127 < v then (128 + (v : Int) % 128) :: smL (v / 128) else [(v : Int)]
termination_by v
decreasing_by omega
theorem smL_big {v : Nat} (h : 127 < v) : smL v = (128 + (v : Int) % 128) :: smL (v / 128) := by rw [smL, if_pos h]
theorem smL_low {v : Nat} (h : v ≤ 127) : smL v = [(v : Int)] := by rw [smL, if_neg (by omega)]
theorem smL_by (v : Nat) : isBy (smL v) := by
  induction v using Nat.strongRecOn with
  | ind v ih =>
    by_cases h : 127 < v
    · rw [smL_big h]
      exact (isBy_one (x := 128 + (v : Int) % 128) (by omega) (by omega)).app (ih _ (by omega))
    · rw [smL_low (by omega)]
      exact isBy_one (by omega) (by omega)
theorem smL_len (v : Nat) (h : v ≤ 2097151) : 1 ≤ (smL v).length ∧ (smL v).length ≤ 3 := by
  by_cases h1 : 127 < v
  · rw [smL_big h1]
    by_cases h2 : 127 < v / 128
    · rw [smL_big h2, smL_low (by omega)]; simp
    · rw [smL_low (by omega)]; simp
  · rw [smL_low (by omega)]; simp

/-- plain -/
def plL (f : Nat → Int) : Nat → List Int
  | 0 => []
  | n + 1 => plL f n ++ [f n % 256, f n / 256 % 256]
theorem plL_len (f : Nat → Int) : ∀ n, (plL f n).length = 2 * n
  | 0 => rfl
  | n + 1 => by simp only [plL, List.length_append, plL_len f n]; simp; omega
theorem plL_by (f : Nat → Int) : ∀ n, isBy (plL f n)
  | 0 => isBy_nil
  | n + 1 => (plL_by f n).app fun x hx => by
    simp only [List.mem_cons, List.not_mem_nil, or_false] at hx
    rcases hx with rfl | rfl <;> omega
theorem tlB_16 (f : Nat → Int) : ∀ n, tlB f 16 n = bb (plL f n)
  | 0 => rfl
  | n + 1 => by simp only [tlB, plL]; rw [tlB_16 f n, bb_app, bitK_16]

/-- steps: the number of a step -/
def stpV (now last : Int) : Nat := if last ≤ now then (2 * (now - last)).toNat else (2 * (last - now) - 1).toNat
def aheadV (f : Nat → Int) : Nat → Int
  | 0 => 0
  | k + 1 => f k
def stL (f : Nat → Int) : Nat → List Int
  | 0 => []
  | n + 1 => stL f n ++ smL (stpV (f n) (aheadV f n))
theorem stL_by (f : Nat → Int) : ∀ n, isBy (stL f n)
  | 0 => isBy_nil
  | n + 1 => (stL_by f n).app (smL_by _)
def tnB (f : Nat → Int) (n : Nat) : Prop := ∀ k, k < n → 0 ≤ f k ∧ f k ≤ 65535
theorem aheadV_bd {f : Nat → Int} {n : Nat} (h : tnB f n) : ∀ k, k ≤ n → 0 ≤ aheadV f k ∧ aheadV f k ≤ 65535
  | 0, _ => by simp [aheadV]
  | k + 1, hk => h k (by omega)
theorem stpV_le {a b : Int} (h0 : 0 ≤ a) (h1 : a ≤ 65535) (h2 : 0 ≤ b) (h3 : b ≤ 65535) : stpV a b ≤ 131070 := by unfold stpV; split <;> omega
theorem stL_len {f : Nat → Int} {n : Nat} (h : tnB f n) : ∀ k, k ≤ n → (stL f k).length ≤ 3 * k
  | 0, _ => by simp [stL]
  | k + 1, hk => by
    have a := h k (by omega)
    have b := aheadV_bd h k (by omega)
    have c := smL_len _ (Nat.le_trans (stpV_le a.1 a.2 b.1 b.2) (by omega))
    have d := stL_len h k (by omega)
    simp only [stL, List.length_append]
    omega

/-- runs: how many from place j on, of m, are v -/
def cntR (f : Nat → Int) (v : Int) : Nat → Nat → Nat
  | _, 0 => 0
  | j, m + 1 => if f j = v then 1 + cntR f v (j + 1) m else 0
theorem cntR_le (f : Nat → Int) (v : Int) : ∀ m j, cntR f v j m ≤ m
  | 0, _ => Nat.le_refl _
  | m + 1, j => by
    simp only [cntR]
    split
    · have := cntR_le f v m (j + 1); omega
    · omega
/-- a run from i is at its end at e -/
theorem cntR_at (f : Nat → Int) (v : Int) : ∀ m j e, j ≤ e → e ≤ j + m → (∀ k, j ≤ k → k < e → f k = v) → (e = j + m ∨ f e ≠ v) → cntR f v j m = e - j
  | 0, j, e, h1, h2, _, _ => by simp only [cntR]; omega
  | m + 1, j, e, h1, h2, h3, h4 => by
    simp only [cntR]
    by_cases hj : j = e
    · subst hj
      rcases h4 with h4 | h4
      · omega
      · rw [if_neg h4]; omega
    · rw [if_pos (h3 j (Nat.le_refl _) (by omega)), cntR_at f v m (j + 1) e (by omega) (by omega) (fun k h5 h6 => h3 k (by omega) h6) (h4.imp (by omega) id)]
      omega
/-- the bytes of the runs of the last m of n tones -/
def rnL (f : Nat → Int) (n : Nat) (m : Nat) : List Int :=
  match m with
  | 0 => []
  | m + 1 => smL (1 + cntR f (f (n - (m + 1))) (n - m) m) ++ smL (f (n - (m + 1))).toNat ++ rnL f n (m - cntR f (f (n - (m + 1))) (n - m) m)
termination_by m
decreasing_by omega
theorem rnL_0 (f : Nat → Int) (n : Nat) : rnL f n 0 = [] := by rw [rnL]
theorem rnL_step (f : Nat → Int) (n i e : Nat) (hi : i < e) (he : e ≤ n) (h : ∀ k, i ≤ k → k < e → f k = f i) (h2 : e = n ∨ f e ≠ f i) : rnL f n (n - i) = smL (e - i) ++ smL (f i).toNat ++ rnL f n (n - e) := by
  obtain ⟨m, hm⟩ : ∃ m, n - i = m + 1 := ⟨n - i - 1, by omega⟩
  rw [hm, rnL]
  have e1 : n - (m + 1) = i := by omega
  have e2 : n - m = i + 1 := by omega
  rw [e1, e2]
  have e3 := cntR_at f (f i) m (i + 1) e (by omega) (by omega) (fun k h5 h6 => h k (by omega) h6) (h2.imp (by omega) id)
  rw [e3]
  rw [show 1 + (e - (i + 1)) = e - i by omega, show m - (e - (i + 1)) = n - e by omega]
theorem rnL_by (f : Nat → Int) (n : Nat) (m : Nat) : isBy (rnL f n m) := by
  induction m using Nat.strongRecOn with
  | ind m ih =>
    match m with
    | 0 => rw [rnL_0]; exact isBy_nil
    | m + 1 =>
      rw [rnL]
      exact ((smL_by _).app (smL_by _)).app (ih _ (by omega))
theorem rnL_len {f : Nat → Int} {n : Nat} (h : tnB f n) (m : Nat) (hn : n ≤ 65536) (hm : m ≤ n) : (rnL f n m).length ≤ 6 * m := by
  induction m using Nat.strongRecOn with
  | ind m ih =>
    match m with
    | 0 => rw [rnL_0]; simp
    | m + 1 =>
      rw [rnL]
      have a := h (n - (m + 1)) (by omega)
      have c := cntR_le f (f (n - (m + 1))) m (n - m)
      have b := ih (m - cntR f (f (n - (m + 1))) (n - m) m) (by omega) (by omega)
      have d := smL_len (1 + cntR f (f (n - (m + 1))) (n - m) m) (by omega)
      have e := smL_len (f (n - (m + 1))).toNat (by omega)
      simp only [List.length_append]
      omega

/-- rice: how many bits with k low ones -/
def rcN (f : Nat → Int) (k : Nat) : Nat → Nat
  | 0 => 0
  | n + 1 => rcN f k n + ((f n / 2 ^ k).toNat + 1 + k)
theorem rcN_bd {f : Nat → Int} {n : Nat} (h : tnB f n) (k : Nat) (hk : k ≤ 15) : ∀ m, m ≤ n → rcN f k m ≤ m * 65551
  | 0, _ => by simp [rcN]
  | m + 1, hm => by
    have a := rcN_bd h k hk m (by omega)
    have b := h m (by omega)
    have c : f m / 2 ^ k ≤ 65535 := Int.le_trans (Int.ediv_le_self _ b.1) b.2
    simp only [rcN]
    omega
theorem rcN_15 {f : Nat → Int} {n : Nat} (h : tnB f n) : ∀ m, m ≤ n → rcN f 15 m ≤ m * 17
  | 0, _ => by simp [rcN]
  | m + 1, hm => by
    have a := rcN_15 h m (by omega)
    have b := h m (by omega)
    have c : f m / 2 ^ 15 ≤ 1 := by omega
    simp only [rcN]
    omega
/-- the least best k of 0 to m -/
def bstK (f : Nat → Int) (n : Nat) : Nat → Nat
  | 0 => 0
  | m + 1 => if rcN f (m + 1) n < rcN f (bstK f n m) n then m + 1 else bstK f n m
theorem bstK_le (f : Nat → Int) (n : Nat) : ∀ m, bstK f n m ≤ m
  | 0 => Nat.le_refl _
  | m + 1 => by
    have := bstK_le f n m
    simp only [bstK]
    split <;> omega
theorem bstK_min (f : Nat → Int) (n : Nat) : ∀ m k, k ≤ m → rcN f (bstK f n m) n ≤ rcN f k n
  | 0, k, hk => by rw [show k = 0 by omega]; exact Nat.le_refl _
  | m + 1, k, hk => by
    simp only [bstK]
    by_cases e : k = m + 1
    · subst e
      split <;> omega
    · have := bstK_min f n m k (by omega)
      split <;> omega
def bst (f : Nat → Int) (n : Nat) : Nat := bstK f n 15
theorem bst_le (f : Nat → Int) (n : Nat) : bst f n ≤ 15 := bstK_le f n 15
theorem bst_bits {f : Nat → Int} {n : Nat} (h : tnB f n) (hn : n ≤ 65536) : rcN f (bst f n) n ≤ 1114112 := by
  have a := bstK_min f n 15 15 (Nat.le_refl _)
  have b := rcN_15 h n (Nat.le_refl _)
  unfold bst
  omega
/-- so many ones -/
def ones (n : Nat) : List Int := List.replicate n 1
theorem ones_len (n : Nat) : (ones n).length = n := List.length_replicate
theorem ones_step (n : Nat) : ones (n + 1) = ones n ++ [1] := List.replicate_succ'
theorem ones_bits : ∀ n, isBits (ones n)
  | 0 => isBits_nil
  | n + 1 => by rw [ones_step]; exact (ones_bits n).snoc (.inr rfl)
/-- the bits of rice -/
def rcB (f : Nat → Int) (k : Nat) : Nat → List Int
  | 0 => []
  | n + 1 => rcB f k n ++ (ones (f n / 2 ^ k).toNat ++ [0] ++ bitK (f n) k)
theorem rcB_len (f : Nat → Int) (k : Nat) : ∀ n, (rcB f k n).length = rcN f k n
  | 0 => rfl
  | n + 1 => by simp only [rcB, rcN, List.length_append, rcB_len f k n, ones_len, bitK_len]; simp
theorem rcB_bits (f : Nat → Int) (k : Nat) : ∀ n, isBits (rcB f k n)
  | 0 => isBits_nil
  | n + 1 => (rcB_bits f k n).cat (((ones_bits _).snoc (.inl rfl)).cat (bitK_bits _ _))
theorem rcN_mono (f : Nat → Int) (k : Nat) {m n : Nat} (h : m ≤ n) : rcN f k m ≤ rcN f k n := by
  induction n with
  | zero => rw [show m = 0 by omega]; exact Nat.le_refl _
  | succ n ih =>
    by_cases e : m = n + 1
    · rw [e]; exact Nat.le_refl _
    · have := ih (by omega)
      simp only [rcN]
      omega

/-- the codec of a name: 1 plain, 2 rice, 3 runs, 4 steps -/
def sPlain : ByteArray := { data := #[112, 108, 97, 105, 110] }
def sRice : ByteArray := { data := #[114, 105, 99, 101] }
def sRuns : ByteArray := { data := #[114, 117, 110, 115] }
def sSteps : ByteArray := { data := #[115, 116, 101, 112, 115] }
def cdN (s : ByteArray) : Nat := if s = sPlain then 1 else if s = sRice then 2 else if s = sRuns then 3 else if s = sSteps then 4 else 0
/-- what a codec writes behind the count -/
def cdL (c : Nat) (f : Nat → Int) (n : Nat) : List Int :=
  if c = 1 then plL f n else if c = 2 then [(bst f n : Int)] ++ fl (byA (rcB f (bst f n) n)) (nB (rcN f (bst f n) n)) else if c = 3 then rnL f n n else stL f n
/-- can it be compressed -/
def tonB (f : Nat → Int) (n : Nat) : Bool := decide (n ≤ 65536) && allG (fun k => inB (f k) 0 65535) n
theorem tonB_is {f : Nat → Int} {n : Nat} (h : tonB f n = true) : n ≤ 65536 ∧ tnB f n := by
  simp only [tonB, Bool.and_eq_true, decide_eq_true_eq] at h
  refine ⟨h.1, fun k hk => ?_⟩
  have := allG_at h.2 k hk
  simpa only [inB, Bool.and_eq_true, decide_eq_true_eq] using this
def cmOk (c : Nat) (f : Nat → Int) (n : Nat) : Bool := tonB f n && !(c == 0)
def cmL (c : Nat) (f : Nat → Int) (n : Nat) : List Int := if cmOk c f n = true then smL n ++ cdL c f n else []
theorem cmL_le (c : Nat) (f : Nat → Int) (n : Nat) : (cmL c f n).length ≤ 1048576 := by
  unfold cmL
  split
  case isFalse => simp
  case isTrue h =>
    simp only [cmOk, Bool.and_eq_true] at h
    obtain ⟨hn, ht⟩ := tonB_is h.1
    have a := smL_len n (by omega)
    rw [List.length_append]
    unfold cdL
    split
    · rw [plL_len]; omega
    · split
      · have b := bst_bits ht hn
        rw [List.length_append, fl_len]
        unfold nB
        simp
        omega
      · split
        · have b := rnL_len ht n hn (Nat.le_refl _); omega
        · have b := stL_len ht n (Nat.le_refl _); omega
theorem cmL_by (c : Nat) (f : Nat → Int) (n : Nat) : isBy (cmL c f n) := by
  unfold cmL
  split
  case isFalse => exact isBy_nil
  case isTrue h =>
    refine (smL_by n).app ?_
    unfold cdL
    split
    · exact plL_by f n
    · split
      · have := bst_le f n
        refine (isBy_one (by omega) (by omega)).app fun x hx => ?_
        obtain ⟨k, hk, rfl⟩ : ∃ k, k < nB (rcN f (bst f n) n) ∧ byA (rcB f (bst f n) n) k = x := by
          obtain ⟨k, hk, e⟩ := List.mem_iff_getElem.1 hx
          rw [fl_len] at hk
          refine ⟨k, hk, ?_⟩
          rw [← fl_at (byA (rcB f (bst f n) n)) _ k hk, ← e, List.getD_eq_getElem?_getD, List.getElem?_eq_getElem (by rw [fl_len]; exact hk)]
          rfl
        exact byA_bd (rcB_bits _ _ _) k
      · split
        · exact rnL_by f n n
        · exact stL_by f n

end Go.Proofs.Ytebcclmilplfcaa
