/- A frame as one value: its limits and its divisor. -/
import Derived.Test.YtjdbiaoheoialaaHom
import Derived.Lib.MinMax
import Derived.BigQuiet
import Derived.Deep.QuietTactic
import Derived.Deep.RegionHeld3
import Derived.Deep.DrawnRows
namespace Go.Proofs.Ytjdbiaoheoialaa
open Go.RowKit

def cgcd (f : Nat → Int) : Nat → Nat
  | 0 => 0
  | k + 1 => Nat.gcd (cgcd f k) (f k).natAbs
theorem cgcd_congr {f g : Nat → Int} : ∀ {n : Nat}, (∀ k, k < n → f k = g k) → cgcd f n = cgcd g n
  | 0, _ => rfl
  | n + 1, h => by simp only [cgcd]; rw [cgcd_congr (fun k hk => h k (by omega)), h n (by omega)]
theorem cgcd_le {f : Nat → Int} {B : Nat} : ∀ {n : Nat}, (∀ k, k < n → (f k).natAbs ≤ B) → cgcd f n ≤ B
  | 0, _ => Nat.zero_le _
  | n + 1, h => by
    simp only [cgcd]
    by_cases e : f n = 0
    · rw [e]; simp; exact cgcd_le (fun k hk => h k (by omega))
    · exact Nat.le_trans (Nat.gcd_le_right _ (Int.natAbs_pos.2 e)) (h n (by omega))
theorem gcd_rem (d x : Int) : Nat.gcd x.natAbs (d.tmod x).natAbs = Nat.gcd d.natAbs x.natAbs := by
  rw [Int.natAbs_tmod, Nat.gcd_comm x.natAbs, ← Nat.gcd_rec, Nat.gcd_comm]
theorem rem_lt (d x : Int) (hx : x ≠ 0) : (d.tmod x).natAbs < x.natAbs := by
  rw [Int.natAbs_tmod]
  exact Nat.mod_lt _ (Int.natAbs_pos.2 hx)

set_option maxRecDepth 100000 in
set_option maxHeartbeats 2000000 in
theorem commonDivisor_any (a : Option Addr) (n cap : Nat) (f : Nat → Int) (hl : n ≤ 1048576) (hf : ∀ k, k < n → (f k).natAbs ≤ 9223372036854775807) (w : World) (h : Px a n f w) :
    Calls Try.prog 45 #[.slice a n cap] w fun e w' => e = .returned (.int .i64 (cgcd f n : Nat)) ∧ ∃ m, w' = w.drewN m := by
  have HP := hide h
  have HF := hide hf
  clear h hf
  go_enter Try.func45, Try.ntmps45
  go_wp2_with fail
  go_loopw [3, 5, 8] (fun d _ i wr => ∃ (k : Nat) (D : Int), k ≤ n ∧ i = .int .i64 k ∧ d = .int .i64 D ∧ D.natAbs = cgcd f k ∧ D.natAbs ≤ 9223372036854775807 ∧ ∃ m, wr = w.drewN m) (fun _ _ i _ => n - (intOf i).toNat)
  case atStart => exact ⟨0, 0, by omega, rfl, rfl, rfl, by simp, 0, rfl⟩
  case round =>
    obtain ⟨k, D, hk, rfl, rfl, hD, hDb, m0, rfl⟩ := hrel
    by_cases hlt : k < n
    · obtain ⟨b, off, rfl, hz⟩ := HP.out.at hlt
      have hfb := HF.out k hlt
      have HG : Hid (Nat.gcd D.natAbs (f k).natAbs = cgcd f (k + 1)) := by show _ = Nat.gcd _ _; rw [hD]
      clear HP HF hD
      generalize f k = x0 at *
      go_wp2_with fail
      go_loopw [3, 5] (fun d x wr => ∃ (D X : Int), d = .int .i64 D ∧ x = .int .i64 X ∧ Nat.gcd D.natAbs X.natAbs = cgcd f (k + 1) ∧ D.natAbs ≤ 9223372036854775807 ∧ X.natAbs ≤ 9223372036854775807 ∧ ∃ m, wr = w.drewN m) (fun _ x _ => (intOf x).natAbs)
      case atStart => exact ⟨D, x0, rfl, rfl, HG.out, hDb, hfb, m0, rfl⟩
      case round =>
        obtain ⟨E, X, rfl, rfl, hg, hE, hX, m1, rfl⟩ := hrel
        clear HG hz hDb hfb
        by_cases hX0 : X = 0
        · subst hX0
          have hg' : E.natAbs = cgcd f (k + 1) := by rw [← hg]; simp
          have HE : Hid (E.natAbs = cgcd f (k + 1) ∧ E.natAbs ≤ 9223372036854775807) := ⟨hg', hE⟩
          clear hg hg' hE hX
          go_wp2_with fail
          exact ⟨⟨k + 1, E, by omega, rfl, rfl, HE.out.1, HE.out.2, m1, rfl⟩, by simp [intOf]; omega⟩
        · obtain ⟨R, hR⟩ : ∃ R, R = E.tmod X := ⟨_, rfl⟩
          have h1 := gcd_rem E X
          have h2 := rem_lt E X hX0
          rw [← hR] at h1 h2
          have wR : IntKind.i64.wrap (E.tmod X) = R := by rw [IntKind.wrap_i64, ← hR]; omega
          have wR2 : E.tmod X = R := hR.symm
          have HW : Hid (wrap64 R = R) := by show _ = _; unfold wrap64; omega
          have hne : (X != 0) = true := by simpa using hX0
          have hne' : (X == 0) = false := by simpa using hX0
          have HN : Hid (Nat.gcd X.natAbs R.natAbs = cgcd f (k + 1) ∧ X.natAbs ≤ 9223372036854775807 ∧ R.natAbs ≤ 9223372036854775807) := ⟨h1.trans hg, hX, by omega⟩
          have HL := hide h2
          clear hg hE hX h1 h2 hR
          go_upto_region 6 with fail
          go_quiet (fail)
          clear wR wR2 hne hne' hX0
          go_wp2_with fail
          exact ⟨⟨X, R, rfl, rfl, HN.out.1, HN.out.2.1, HN.out.2.2, _, World.drewN_drewN _ _ _⟩, by simp only [intOf]; exact HL.out⟩
    · obtain rfl : k = n := by omega
      have hm : max D (-D) = ((cgcd f k : Nat) : Int) := by rw [← hD]; omega
      have wD : IntKind.i64.wrap (-D) = -D := by rw [IntKind.wrap_i64]; omega
      have HM := hide hm
      clear HP HF hD hm hDb
      obtain ⟨E, hE⟩ : ∃ E, -D = E := ⟨_, rfl⟩
      rw [hE] at wD HM
      go_wp2
      go_ret
      exact ⟨by rw [← HM.out]; rfl, m0, rfl⟩

end Go.Proofs.Ytjdbiaoheoialaa

namespace Go.Proofs.Ytjdbiaoheoialaa
open Go.RowKit
attribute [local go_sem ↓] Go.wp_at_zero Go.wp_at_succ

def c13 (M T : Nat → Int) (D : Int) : List Value := [.int .i64 (M 0), .int .i64 (M 1), .int .i64 (M 2), .int .i64 (M 3), .int .i64 (M 4), .int .i64 (M 5), .int .i64 (M 6), .int .i64 (M 7), .int .i64 (M 8), .int .i64 (T 0), .int .i64 (T 1), .int .i64 (T 2), .int .i64 D]
def mapV (M T : Nat → Int) (D : Int) : Value := .agg #[.int .i64 (M 0), .int .i64 (M 1), .int .i64 (M 2), .int .i64 (M 3), .int .i64 (M 4), .int .i64 (M 5), .int .i64 (M 6), .int .i64 (M 7), .int .i64 (M 8), .int .i64 (T 0), .int .i64 (T 1), .int .i64 (T 2), .int .i64 D]
theorem St.mapM {w0 : World} {L : List BoxT} {O : List OwnT} {w : World} (h : St w0 L O w) (i : Nat) {b : Nat} {M T : Nat → Int} {D : Int} (hm : L[i]? = some (b, c13 M T D)) : Px (some ⟨b, 0, none⟩) 9 M w := by
  refine .inr ⟨b, 0, rfl, fun k hk => ?_⟩
  rw [Nat.zero_add]
  rcases (show k = 0 ∨ k = 1 ∨ k = 2 ∨ k = 3 ∨ k = 4 ∨ k = 5 ∨ k = 6 ∨ k = 7 ∨ k = 8 by omega) with rfl | rfl | rfl | rfl | rfl | rfl | rfl | rfl | rfl
  all_goals exact h.cell i hm _ rfl
theorem St.mapT {w0 : World} {L : List BoxT} {O : List OwnT} {w : World} (h : St w0 L O w) (i : Nat) {b : Nat} {M T : Nat → Int} {D : Int} (hm : L[i]? = some (b, c13 M T D)) : Px (some ⟨b, 9, none⟩) 3 T w := by
  refine .inr ⟨b, 9, rfl, fun k hk => ?_⟩
  rcases (show k = 0 ∨ k = 1 ∨ k = 2 by omega) with rfl | rfl | rfl
  all_goals exact h.cell i hm _ rfl
theorem St.mapD {w0 : World} {L : List BoxT} {O : List OwnT} {w : World} (h : St w0 L O w) (i : Nat) {b : Nat} {M T : Nat → Int} {D : Int} (hm : L[i]? = some (b, c13 M T D)) : w.cell? ⟨b, 12, none⟩ = some (.int .i64 D) := h.cell i hm 12 rfl

def limB (M T : Nat → Int) (D : Int) : Bool := alW M (-1000000) 1000000 9 && (alW T (-1000000) 1000000 3 && inB D 1 1000000)

set_option maxRecDepth 100000 in
set_option maxHeartbeats 2000000 in
theorem isInLimits_any (M T : Nat → Int) (D : Int) (w : World) :
    Calls Try.prog 49 #[mapV M T D] w fun e w' => e = .returned (.bool (limB M T D)) ∧ Below w.heap.size w w' := by
  have HS0 := hide ((St.start w).box (c13 M T D) 48)
  have cM := allWithin_any (-1000000) 1000000 _ 9 9 M (by omega) _ (HS0.out.mapM 0 rfl)
  have cT := allWithin_any (-1000000) 1000000 _ 3 3 T (by omega) _ (HS0.out.mapT 0 rfl)
  have cD := within_any D 1 1000000
  have hD := HS0.out.mapD 0 rfl
  have HB := hide HS0.out.below
  unfold limB mapV
  unfold c13 at cM cT hD HB
  clear HS0
  cases hm : alW M (-1000000) 1000000 9
  · rw [hm] at cM
    clear hm cT cD
    go_enter Try.func49, Try.ntmps49
    go_wp2_with fail
    refine cM.mono ?_
    rintro e w1 ⟨rfl, rfl⟩
    go_wp2_with fail
    go_ret
    exact ⟨rfl, HB.out⟩
  rw [hm] at cM
  cases ht : alW T (-1000000) 1000000 3
  · rw [ht] at cT
    clear hm ht cD
    go_enter Try.func49, Try.ntmps49
    go_wp2_with fail
    refine cM.mono ?_
    rintro e w1 ⟨rfl, rfl⟩
    go_wp2_with fail
    refine cT.mono ?_
    rintro e w1 ⟨rfl, rfl⟩
    go_wp2_with fail
    go_ret
    exact ⟨rfl, HB.out⟩
  · rw [ht] at cT
    clear hm ht
    generalize inB D 1 1000000 = q at *
    go_enter Try.func49, Try.ntmps49
    go_wp2_with fail
    refine cM.mono ?_
    rintro e w1 ⟨rfl, rfl⟩
    go_wp2_with fail
    refine cT.mono ?_
    rintro e w1 ⟨rfl, rfl⟩
    go_wp2_with fail
    refine (cD _).mono ?_
    rintro e w1 ⟨rfl, rfl⟩
    go_wp2_with fail
    go_ret
    exact ⟨by simp, HB.out⟩

/-- the divisor of all thirteen -/
def mdiv (M T : Nat → Int) (D : Int) : Nat := Nat.gcd (Nat.gcd (cgcd M 9) (cgcd T 3)) D.natAbs
def tri (a b c : Int) : Nat → Int
  | 0 => a
  | 1 => b
  | _ => c
theorem tri_gcd (a b : Nat) (c : Int) : cgcd (tri a b c) 3 = Nat.gcd (Nat.gcd a b) c.natAbs := by
  show Nat.gcd (Nat.gcd (Nat.gcd 0 (a : Int).natAbs) (b : Int).natAbs) c.natAbs = _
  rw [Nat.gcd_zero_left, Int.natAbs_natCast, Int.natAbs_natCast]
theorem tri_px (a b c : Int) (w : World) : Px (some ⟨w.heap.size, 0, none⟩) 3 (tri a b c) (w.alloc (.cells #[.int .i64 a, .int .i64 b, .int .i64 c] 2)) := by
  refine .inr ⟨w.heap.size, 0, rfl, fun k hk => ?_⟩
  rcases (show k = 0 ∨ k = 1 ∨ k = 2 by omega) with rfl | rfl | rfl
  all_goals simp [go_sem, tri]

theorem cg_bd {f : Nat → Int} {n B : Nat} (h : ∀ k, k < n → (f k).natAbs ≤ B) (hB : B ≤ 9223372036854775807) : cgcd f n ≤ 9223372036854775807 := Nat.le_trans (cgcd_le h) hB

set_option maxRecDepth 100000 in
set_option maxHeartbeats 4000000 in
theorem divisor_any (M T : Nat → Int) (D : Int) (hM : ∀ k, k < 9 → (M k).natAbs ≤ 9223372036854775807) (hT : ∀ k, k < 3 → (T k).natAbs ≤ 9223372036854775807) (hD : D.natAbs ≤ 9223372036854775807) (w : World) :
    Calls Try.prog 35 #[mapV M T D] w fun e w' => e = .returned (.int .i64 (mdiv M T D : Nat)) ∧ Below w.heap.size w w' := by
  have HS0 := hide ((St.start w).box (c13 M T D) 48)
  have HM := hide (HS0.out.mapM 0 rfl)
  have HT := hide (HS0.out.mapT 0 rfl)
  have zD := HS0.out.mapD 0 rfl
  have HB := hide HS0.out.below
  have b1 : cgcd M 9 ≤ 9223372036854775807 := cgcd_le hM
  have b2 : cgcd T 3 ≤ 9223372036854775807 := cgcd_le hT
  obtain ⟨wA, hA⟩ : ∃ wA, wA = w.alloc (.cells (c13 M T D).toArray 48) := ⟨_, rfl⟩
  rw [← hA] at HM HT zD HB
  have k1 : Calls Try.prog 45 #[.slice (some ⟨w.heap.size, 0, none⟩) 9 9] wA.drew (fun e w' => e = .returned (.int .i64 (cgcd M 9 : Nat)) ∧ ∃ m, w' = wA.drewN m) :=
    (commonDivisor_any (some ⟨w.heap.size, 0, none⟩) 9 9 M (by omega) hM wA.drew HM.out).mono fun e w' ⟨h1, m, h2⟩ => ⟨h1, 1 + m, by rw [h2]; exact World.drewN_drew _ _⟩
  have k2 : ∀ m, Calls Try.prog 45 #[.slice (some ⟨w.heap.size, 9, none⟩) 3 3] (wA.drewN m) (fun e w' => e = .returned (.int .i64 (cgcd T 3 : Nat)) ∧ ∃ m, w' = wA.drewN m) := fun n =>
    (commonDivisor_any (some ⟨w.heap.size, 9, none⟩) 3 3 T (by omega) hT (wA.drewN n) HT.out).mono fun e w' ⟨h1, m, h2⟩ => ⟨h1, n + m, by rw [h2]; exact World.drewN_drewN _ _ _⟩
  have k3 : ∀ m, Calls Try.prog 45 #[.slice (some ⟨wA.heap.size, 0, none⟩) 3 3] ((wA.drewN m).alloc (.cells #[.int .i64 (cgcd M 9 : Nat), .int .i64 (cgcd T 3 : Nat), .int .i64 D] 2)) (fun e w' => e = .returned (.int .i64 (mdiv M T D : Nat)) ∧ Below w.heap.size w w' ∧ w'.cell? ⟨w.heap.size, 12, none⟩ = some (.int .i64 D)) := fun n => by
    have hx := tri_px (cgcd M 9 : Nat) (cgcd T 3 : Nat) D (wA.drewN n)
    have hbb := bnext (below_drewN HB.out n) (Nat.le_refl _) (bnew (wA.drewN n) (.cells #[.int .i64 (cgcd M 9 : Nat), .int .i64 (cgcd T 3 : Nat), .int .i64 D] 2))
    have := commonDivisor_any (some ⟨wA.heap.size, 0, none⟩) 3 3 (tri (cgcd M 9 : Nat) (cgcd T 3 : Nat) D) (by omega) (fun k hk => by
      rcases (show k = 0 ∨ k = 1 ∨ k = 2 by omega) with rfl | rfl | rfl
      · show ((cgcd M 9 : Nat) : Int).natAbs ≤ _; omega
      · show ((cgcd T 3 : Nat) : Int).natAbs ≤ _; omega
      · exact hD) _ hx
    rw [tri_gcd] at this
    have hb2 := bnext (below_drewN (Below.refl wA.heap.size wA) n) (Nat.le_refl _) (bnew (wA.drewN n) (.cells #[.int .i64 (cgcd M 9 : Nat), .int .i64 (cgcd T 3 : Nat), .int .i64 D] 2))
    have hlt := World.block_lt_of_cell? wA _ zD
    exact this.mono fun e w' ⟨h1, m, h2⟩ => ⟨h1, by rw [h2]; exact below_drewN hbb m, by rw [h2, (below_drewN hb2 m).cell (p := ⟨w.heap.size, 12, none⟩) hlt]; exact zD⟩
  have hA' : w.alloc (.cells #[.int .i64 (M 0), .int .i64 (M 1), .int .i64 (M 2), .int .i64 (M 3), .int .i64 (M 4), .int .i64 (M 5), .int .i64 (M 6), .int .i64 (M 7), .int .i64 (M 8), .int .i64 (T 0), .int .i64 (T 1), .int .i64 (T 2), .int .i64 D] 48) = wA := hA.symm
  unfold mapV
  clear hM hT hD HS0 b1 b2 hA HB HM HT
  generalize cgcd M 9 = g1 at *
  generalize cgcd T 3 = g2 at *
  generalize mdiv M T D = g3 at *
  go_enter Try.func35, Try.ntmps35
  go_upto_region 1 with fail
  clear hA'
  go_region_held3 (fun w' => w'.cell? ⟨w.heap.size, 12, none⟩ = some (.int .i64 D)) (first | exact zD | exact hz3 | go_keep) (first
    | (go_at_call 45; with_reducible refine k1.mono ?_; rintro e w1 ⟨rfl, n1, rfl⟩)
    | (go_at_call 45; with_reducible refine (k2 _).mono ?_; rintro e w1 ⟨rfl, n2, rfl⟩)
    | (go_at_call 45; with_reducible refine (k3 _).mono ?_; rintro e w1 ⟨rfl, hb3, hz3⟩))
  all_goals
    have HB3 := hide hb3
    clear k1 k2 k3 zD hb3 hz3
    go_wp2_with fail
    go_ret
    exact ⟨rfl, HB3.out⟩

end Go.Proofs.Ytjdbiaoheoialaa
