/- Counts over cells, both ways. -/
import Derived.Test.YtlailkoikcjecaaWdc
import Derived.Test.YtlailkoikcjecaaQry
import Derived.BigRegion
namespace Go.Proofs.Ytlailkoikcjecaa
open Go.RowKit

/-- is a cell asked for -/
def askB (a b : Int) (c : Nat) : Bool := bitB a (2 ^ (c / 8)) && bitB b (2 ^ (c % 8))

theorem below_drewN {B : Nat} {w w' : World} (h : Below B w w') (d : Nat) : Below B w (w'.drewN d) := ⟨h.os, h.tape, h.output, h.size, h.block⟩
theorem wrap_small {x : Int} (h0 : 0 < x) (h1 : x ≤ 128) : IntKind.i64.wrap x = x ∧ wrap64 x = x := by
  have h : IntKind.i64.wrap x = x := by rw [IntKind.wrap_i64]; omega
  exact ⟨h, by unfold wrap64; omega⟩

set_option maxRecDepth 100000 in
set_option maxHeartbeats 1000000 in
theorem asksFor_any (a b : Int) (c : Nat) (hc : c < 64) (ha : 0 ≤ a ∧ a ≤ 255) (hb : 0 ≤ b ∧ b ≤ 255) (w : World) :
    Calls Try.prog 20 #[vQuery a b, .int .i64 c] w fun e w' => e = .returned (.bool (askB a b c)) ∧ Below w.heap.size w w' := by
  obtain ⟨D, hD⟩ : ∃ D, D = c / 8 := ⟨_, rfl⟩
  obtain ⟨M, hM⟩ : ∃ M, M = c % 8 := ⟨_, rfl⟩
  have hD8 : D < 8 := by omega
  have hM8 : M < 8 := by omega
  have e1 : Int.tdiv (c : Int) 8 = (D : Int) := by rw [Int.tdiv_eq_ediv_of_nonneg (by omega)]; omega
  have e2 : Int.tmod (c : Int) 8 = (M : Int) := by rw [Int.tmod_eq_emod_of_nonneg (by omega)]; omega
  have p1 : (2 : Int) ^ D ≤ 128 := by
    have : D = 0 ∨ D = 1 ∨ D = 2 ∨ D = 3 ∨ D = 4 ∨ D = 5 ∨ D = 6 ∨ D = 7 := by omega
    rcases this with h | h | h | h | h | h | h | h <;> subst h <;> decide
  have p2 : (2 : Int) ^ M ≤ 128 := by
    have : M = 0 ∨ M = 1 ∨ M = 2 ∨ M = 3 ∨ M = 4 ∨ M = 5 ∨ M = 6 ∨ M = 7 := by omega
    rcases this with h | h | h | h | h | h | h | h <;> subst h <;> decide
  have p3 : (0 : Int) < 2 ^ D := Int.pow_pos (by decide)
  have p4 : (0 : Int) < 2 ^ M := Int.pow_pos (by decide)
  obtain ⟨q3, q1⟩ := wrap_small p3 p1
  obtain ⟨q4, q2⟩ := wrap_small p4 p2
  clear p1 p2 p3 p4
  have c1 := hasFlag_any a (2 ^ D) ha.1 ha.2 D hD8 (by simp)
  have c2 := hasFlag_any b (2 ^ M) hb.1 hb.2 M hM8 (by simp)
  unfold askB
  rw [← hD, ← hM]
  clear hD hM ha hb
  have HB : Hid (∀ n, Below w.heap.size w ((w.alloc (.cells #[.int .i64 a, .int .i64 b] 26)).drewN n)) := fun n => below_drewN (bnew _ _) n
  generalize bitB a (2 ^ D) = B1 at *
  generalize bitB b (2 ^ M) = B2 at *
  cases B1
  · clear c2
    go_enter Try.func20, Try.ntmps20
    go_wp2_with fail
    go_quiet ((go_at_call 25; exact Calls.quiet_of_same (c1 _)))
    go_wp2_with fail
    go_ret
    exact ⟨rfl, HB.out nq⟩
  · go_enter Try.func20, Try.ntmps20
    go_wp2_with fail
    go_quiet ((go_at_call 25; (first | with_reducible exact Calls.quiet_of_same (c1 _) | with_reducible exact Calls.quiet_of_same (c2 _))))
    go_wp2_with fail
    go_ret
    exact ⟨by simp, HB.out nq⟩

/-- what is counted of the first k cells -/
def ctS (s : Nat → Int) (a b l : Int) : Nat → Int
  | 0 => 0
  | c + 1 => if askB a b c = true ∧ l ≤ s c then ctS s a b l c + s c else ctS s a b l c
theorem ctS_bd {s : Nat → Int} (hs : ∀ c, 0 ≤ s c ∧ s c ≤ 200) (a b l : Int) : ∀ k, 0 ≤ ctS s a b l k ∧ ctS s a b l k ≤ 200 * (k : Int)
  | 0 => by simp [ctS]
  | k + 1 => by
    have h1 := ctS_bd hs a b l k
    have h2 := hs k
    simp only [ctS]
    split <;> omega
/-- what Count answers -/
def cnOk (g : Nat → Int) (n : Nat) (a b l : Int) : Bool := ptsB g n && (inB a 0 255 && (inB b 0 255 && inB l 1 200))
def cnV (g : Nat → Int) (n : Nat) (a b l : Int) : Int := if cnOk g n a b l = true then ctS (clN g n) a b l 64 else -1
theorem inB_at {n lo hi : Int} (h : inB n lo hi = true) : lo ≤ n ∧ n ≤ hi := (inB_iff n lo hi).1 h

set_option maxRecDepth 100000 in
set_option maxHeartbeats 2000000 in
theorem implCount_any (ad : Option Addr) (n cap : Nat) (g : Nat → Int) (hl : n ≤ 1048576) (a b l : Int) (w : World) (h : Px ad (n * 4) g w) :
    Calls Try.prog 8 #[.slice ad n cap, vQuery a b, .int .i64 l] w fun e w' => e = .returned (.int .i64 (cnV g n a b l)) ∧ Below w.heap.size w w' := by
  obtain ⟨W, hW⟩ : ∃ W, W = w.alloc (.cells #[.int .i64 a, .int .i64 b] 26) := ⟨_, rfl⟩
  have hWB : Below w.heap.size w W := by rw [hW]; exact bnew _ _
  have hWs : w.heap.size < W.heap.size := by rw [hW]; simp
  have i0 : W.cell? ⟨w.heap.size, 0, none⟩ = some (.int .i64 a) := by rw [hW]; simp [go_sem]
  have i1 : W.cell? ⟨w.heap.size, 1, none⟩ = some (.int .i64 b) := by rw [hW]; simp [go_sem]
  have HI := hide (And.intro i0 i1)
  have hW' := hW.symm
  have c := implCells_any ad n cap g hl W (h.below hWB)
  unfold LsR at c
  have c0 := within_any a 0 255
  have c1 := within_any b 0 255
  have c2 := within_any l 1 200
  have HWB := hide hWB
  have HV : Hid (cnV g n a b l = if (ptsB g n && (inB a 0 255 && (inB b 0 255 && inB l 1 200))) = true then ctS (clN g n) a b l 64 else -1) := rfl
  have HA : Hid (inB a 0 255 = true → 0 ≤ a ∧ a ≤ 255) := fun h => inB_at h
  have HB' : Hid (inB b 0 255 = true → 0 ≤ b ∧ b ≤ 255) := fun h => inB_at h
  have HL : Hid (inB l 1 200 = true → 1 ≤ l ∧ l ≤ 200) := fun h => inB_at h
  have HCE : Hid (ceN g n = if ptsB g n = true then 64 else 0) := rfl
  have HN : Hid (ptsB g n = true → n ≤ 200) := fun h => (ptsB_at h).1
  have HBD := hide (clN_bd g n)
  generalize inB a 0 255 = B0 at *
  generalize inB b 0 255 = B1 at *
  generalize inB l 1 200 = B2 at *
  generalize ptsB g n = PB at *
  generalize clN g n = s at *
  generalize ceN g n = rN at *
  clear h hW hWB i0 i1
  go_enter Try.func8, Try.ntmps8
  go_wp2_with fail
  refine c.mono ?_
  rintro e w1 ⟨a1, cap1, b1, rfl, hO, -, hb1⟩
  have HB1 := hide hb1
  have HO := hide hO.px
  have i0 : w1.cell? ⟨w.heap.size, 0, none⟩ = some (.int .i64 a) := (hb1.cell (p := ⟨w.heap.size, 0, none⟩) hWs).trans HI.out.1
  have i1 : w1.cell? ⟨w.heap.size, 1, none⟩ = some (.int .i64 b) := (hb1.cell (p := ⟨w.heap.size, 1, none⟩) hWs).trans HI.out.2
  have HF1 : Hid (Below w.heap.size w w1) := bnext HWB.out (Nat.le_refl _) hb1
  clear c hb1 hO hW'
  cases PB
  · obtain rfl : rN = 0 := HCE.out
    clear HCE HO HBD
    go_wp2_with fail
    go_ret
    exact ⟨by rw [HV.out]; rfl, HF1.out⟩
  obtain rfl : rN = 64 := HCE.out
  have hn200 := HN.out (by trivial)
  clear HCE HN
  go_wp2_with fail
  refine (c0 _).mono ?_
  rintro e w2 ⟨rfl, rfl⟩
  cases B0
  · clear HO HBD
    go_wp2_with fail
    go_ret
    exact ⟨by rw [HV.out]; rfl, HF1.out⟩
  go_wp2_with fail
  refine (c1 _).mono ?_
  rintro e w2 ⟨rfl, rfl⟩
  cases B1
  · clear HO HBD
    go_wp2_with fail
    go_ret
    exact ⟨by rw [HV.out]; rfl, HF1.out⟩
  go_wp2_with fail
  refine (c2 _).mono ?_
  rintro e w2 ⟨rfl, rfl⟩
  cases B2
  · clear HO HBD
    go_wp2_with fail
    go_ret
    exact ⟨by rw [HV.out]; rfl, HF1.out⟩
  have hab := HA.out (by trivial)
  have hbb := HB'.out (by trivial)
  have hlb := HL.out (by trivial)
  have HBs : Hid (∀ c, 0 ≤ s c ∧ s c ≤ 200) := fun c => by have := HBD.out c; omega
  have HSB := hide (ctS_bd HBs.out a b l)
  clear HA HB' HL HBD HI HB1 HWB c0 c1 c2
  go_wp2_with fail
  go_loopw [8, 35] (fun t i wr => ∃ k : Nat, k ≤ 64 ∧ i = .int .i64 k ∧ t = .int .i64 (ctS s a b l k) ∧ Below w2.heap.size w2 wr) (fun _ i _ => 64 - (intOf i).toNat)
  case atStart => exact ⟨0, by omega, rfl, rfl, Below.refl _ _⟩
  case round =>
    obtain ⟨k, hk, rfl, rfl, hb⟩ := hrel
    have HB := hide hb
    have hsz : w.heap.size < w2.heap.size := World.block_lt_of_cell? _ _ i0
    have j0 := (hb.cell (p := ⟨w.heap.size, 0, none⟩) hsz).trans i0
    have j1 := (hb.cell (p := ⟨w.heap.size, 1, none⟩) hsz).trans i1
    clear hb i0 i1
    by_cases hlt : k < 64
    · obtain ⟨b2, off, rfl, hc⟩ := (HO.out.below HB.out).at hlt
      have cA := asksFor_any a b k hlt hab hbb
      have HK : Hid (ctS s a b l (k + 1) = if askB a b k = true ∧ l ≤ s k then ctS s a b l k + s k else ctS s a b l k) := rfl
      have hs := HBs.out k
      have ht := HSB.out k
      generalize askB a b k = AB at *
      generalize s k = x at *
      generalize ctS s a b l k = t at *
      go_wp2_with fail
      refine (cA _).mono ?_
      rintro e w3 ⟨rfl, hb3⟩
      have HB3 := hide (bnext HB.out (Nat.le_refl _) hb3)
      clear cA hb3 hc HB j0 j1
      cases AB
      · go_wp2_with fail
        exact ⟨⟨k + 1, by omega, rfl, by rw [HK.out]; rfl, HB3.out⟩, by simp [intOf]; omega⟩
      · by_cases hle : l ≤ x
        · go_wp2_with fail
          exact ⟨⟨k + 1, by omega, rfl, by rw [HK.out, if_pos ⟨by trivial, hle⟩], HB3.out⟩, by simp [intOf]; omega⟩
        · go_wp2_with fail
          exact ⟨⟨k + 1, by omega, rfl, by rw [HK.out, if_neg (fun h => absurd h.2 (by omega))], HB3.out⟩, by simp [intOf]; omega⟩
    · obtain rfl : k = 64 := by omega
      have HFF := hide (bnext HF1.out (Nat.le_refl _) HB.out)
      clear HB j0 j1
      go_wp2_with fail
      go_ret
      exact ⟨by rw [HV.out]; rfl, HFF.out⟩

theorem two_le {D : Nat} (h : D < 8) : (2 : Int) ^ D ≤ 128 := by
  have : D = 0 ∨ D = 1 ∨ D = 2 ∨ D = 3 ∨ D = 4 ∨ D = 5 ∨ D = 6 ∨ D = 7 := by omega
  rcases this with h | h | h | h | h | h | h | h <;> subst h <;> decide
theorem pow_pos2 (m : Nat) : (0 : Int) < 2 ^ m := Int.pow_pos (by decide)
theorem l13Two_any (k : Nat) (hk : k ≤ 62) (w : World) : Calls Try.prog 17 #[.int .i64 k] w fun e w' => e = .returned (.int .i64 (2 ^ k)) ∧ w' = w := by
  go_enter Try.func17, Try.ntmps17
  go_wp2
  go_loop [0, 3] (fun i s => ∃ j : Nat, j ≤ k ∧ i = .int .i64 ((k : Int) - (j : Int)) ∧ s = .int .i64 (2 ^ j)) (fun i _ => (intOf i).toNat)
  case atStart => exact ⟨0, by omega, by simp, rfl⟩
  case round =>
    obtain ⟨j, hj, rfl, rfl⟩ := hrel
    by_cases hlt : j < k
    · have hp : (2 : Int) ^ j ≤ 2 ^ 61 := by exact_mod_cast Nat.pow_le_pow_right (by decide) (by omega : j ≤ 61)
      have hp0 := pow_pos2 j
      have HE : Hid ((2 : Int) ^ (j + 1) = 2 * 2 ^ j) := by show _ = _; rw [Int.pow_succ]; omega
      generalize (2 : Int) ^ j = P at *
      go_wp2
      exact ⟨⟨j + 1, by omega, by congr 1; omega, by rw [HE.out]⟩, by simp [intOf]; omega⟩
    · obtain rfl : j = k := by omega
      go_wp2
      go_ret
      exact ⟨rfl, rfl⟩


set_option maxRecDepth 100000 in
set_option maxHeartbeats 2000000 in
theorem specCount_any (ad : Option Addr) (n cap : Nat) (g : Nat → Int) (hl : n ≤ 1048576) (a b l : Int) (w : World) (h : Px ad (n * 4) g w) :
    Calls Try.prog 7 #[.slice ad n cap, vQuery a b, .int .i64 l] w fun e w' => e = .returned (.int .i64 (cnV g n a b l)) ∧ Below w.heap.size w w' := by
  obtain ⟨W, hW⟩ : ∃ W, W = w.alloc (.cells #[.int .i64 a, .int .i64 b] 26) := ⟨_, rfl⟩
  have hWB : Below w.heap.size w W := by rw [hW]; exact bnew _ _
  have hWs : w.heap.size < W.heap.size := by rw [hW]; simp
  have i0 : W.cell? ⟨w.heap.size, 0, none⟩ = some (.int .i64 a) := by rw [hW]; simp [go_sem]
  have i1 : W.cell? ⟨w.heap.size, 1, none⟩ = some (.int .i64 b) := by rw [hW]; simp [go_sem]
  have HI := hide (And.intro i0 i1)
  have hW' := hW.symm
  have c := specCells_any ad n cap g hl W (h.below hWB)
  unfold LsR at c
  have c0 := l1In_any a 0 255
  have c1 := l1In_any b 0 255
  have c2 := l1In_any l 1 200
  have HWB := hide hWB
  have HV : Hid (cnV g n a b l = if (ptsB g n && (inB a 0 255 && (inB b 0 255 && inB l 1 200))) = true then ctS (clN g n) a b l 64 else -1) := rfl
  have HA : Hid (inB a 0 255 = true → 0 ≤ a ∧ a ≤ 255) := fun h => inB_at h
  have HB' : Hid (inB b 0 255 = true → 0 ≤ b ∧ b ≤ 255) := fun h => inB_at h
  have HL : Hid (inB l 1 200 = true → 1 ≤ l ∧ l ≤ 200) := fun h => inB_at h
  have HCE : Hid (ceN g n = if ptsB g n = true then 64 else 0) := rfl
  have HN : Hid (ptsB g n = true → n ≤ 200) := fun h => (ptsB_at h).1
  have HBD := hide (clN_bd g n)
  generalize inB a 0 255 = B0 at *
  generalize inB b 0 255 = B1 at *
  generalize inB l 1 200 = B2 at *
  generalize ptsB g n = PB at *
  generalize clN g n = s at *
  generalize ceN g n = rN at *
  clear h hW hWB i0 i1
  go_enter Try.func7, Try.ntmps7
  go_wp2_with fail
  refine c.mono ?_
  rintro e w1 ⟨a1, cap1, b1, rfl, hO, -, hb1⟩
  have HB1 := hide hb1
  have HO := hide hO.px
  have i0 : w1.cell? ⟨w.heap.size, 0, none⟩ = some (.int .i64 a) := (hb1.cell (p := ⟨w.heap.size, 0, none⟩) hWs).trans HI.out.1
  have i1 : w1.cell? ⟨w.heap.size, 1, none⟩ = some (.int .i64 b) := (hb1.cell (p := ⟨w.heap.size, 1, none⟩) hWs).trans HI.out.2
  have HF1 : Hid (Below w.heap.size w w1) := bnext HWB.out (Nat.le_refl _) hb1
  clear c hb1 hO hW'
  cases PB
  · obtain rfl : rN = 0 := HCE.out
    clear HCE HO HBD
    go_wp2_with fail
    go_ret
    exact ⟨by rw [HV.out]; rfl, HF1.out⟩
  obtain rfl : rN = 64 := HCE.out
  have hn200 := HN.out (by trivial)
  clear HCE HN
  go_wp2_with fail
  refine (c0 _).mono ?_
  rintro e w2 ⟨rfl, rfl⟩
  cases B0
  · clear HO HBD
    go_wp2_with fail
    go_ret
    exact ⟨by rw [HV.out]; rfl, HF1.out⟩
  go_wp2_with fail
  refine (c1 _).mono ?_
  rintro e w2 ⟨rfl, rfl⟩
  cases B1
  · clear HO HBD
    go_wp2_with fail
    go_ret
    exact ⟨by rw [HV.out]; rfl, HF1.out⟩
  go_wp2_with fail
  refine (c2 _).mono ?_
  rintro e w2 ⟨rfl, rfl⟩
  cases B2
  · clear HO HBD
    go_wp2_with fail
    go_ret
    exact ⟨by rw [HV.out]; rfl, HF1.out⟩
  have hab := HA.out (by trivial)
  have hbb := HB'.out (by trivial)
  have hlb := HL.out (by trivial)
  have HBs : Hid (∀ c, 0 ≤ s c ∧ s c ≤ 200) := fun c => by have := HBD.out c; omega
  have HSB := hide (ctS_bd HBs.out a b l)
  clear HA HB' HL HBD HI HB1 HWB c0 c1 c2
  go_wp2_with fail
  go_loopw [8, 9] (fun t i wr => ∃ k : Nat, k ≤ 64 ∧ i = .int .i64 k ∧ t = .int .i64 (ctS s a b l k) ∧ Below w2.heap.size w2 wr) (fun _ i _ => 64 - (intOf i).toNat)
  case atStart => exact ⟨0, by omega, rfl, rfl, Below.refl _ _⟩
  case round =>
    obtain ⟨k, hk, rfl, rfl, hb⟩ := hrel
    have HB := hide hb
    have HBd := hide (fun d => below_drewN hb d)
    have hsz : w.heap.size < w2.heap.size := World.block_lt_of_cell? _ _ i0
    have j0 := (hb.cell (p := ⟨w.heap.size, 0, none⟩) hsz).trans i0
    have j1 := (hb.cell (p := ⟨w.heap.size, 1, none⟩) hsz).trans i1
    clear hb i0 i1
    by_cases hlt : k < 64
    · obtain ⟨b2, off, rfl, hc⟩ := (HO.out.below HB.out).at hlt
      obtain ⟨D, hD⟩ : ∃ D, D = k / 8 := ⟨_, rfl⟩
      obtain ⟨M, hM⟩ : ∃ M, M = k % 8 := ⟨_, rfl⟩
      have hD8 : D < 8 := by omega
      have hM8 : M < 8 := by omega
      have e1 : Int.tdiv (k : Int) 8 = (D : Int) := by rw [Int.tdiv_eq_ediv_of_nonneg (by omega)]; omega
      have e2 : Int.tmod (k : Int) 8 = (M : Int) := by rw [Int.tmod_eq_emod_of_nonneg (by omega)]; omega
      have p1 := two_le hD8
      have p2 := two_le hM8
      have t1 := l13Two_any D (by omega)
      have t2 := l13Two_any M (by omega)
      have c1 := l16Bit_any a (2 ^ D) hab.1 (by omega) (Int.pow_pos (by decide)) (by omega)
      have c2 := l16Bit_any b (2 ^ M) hbb.1 (by omega) (Int.pow_pos (by decide)) (by omega)
      have HK : Hid (ctS s a b l (k + 1) = if (bitB a (2 ^ (k / 8)) && bitB b (2 ^ (k % 8))) = true ∧ l ≤ s k then ctS s a b l k + s k else ctS s a b l k) := rfl
      have hs := HBs.out k
      have ht := HSB.out k
      rw [← hD, ← hM] at HK
      clear p1 p2 hD hM
      generalize bitB a (2 ^ D) = A1 at *
      generalize bitB b (2 ^ M) = A2 at *
      generalize (2 : Int) ^ D = Q1 at *
      generalize (2 : Int) ^ M = Q2 at *
      generalize s k = x at *
      generalize ctS s a b l k = t at *
      cases A1
      · clear c2 t2 hc
        go_upto_region 8 with fail
        go_quiet (first | (go_at_call 17; exact Calls.quiet_of_same (t1 _)) | (go_at_call 16; exact Calls.quiet_of_same (c1 _)))
        clear c1 t1
        go_wp2_with fail
        exact ⟨⟨k + 1, by omega, rfl, by rw [HK.out]; rfl, HBd.out nq⟩, by simp [intOf]; omega⟩
      cases A2
      · clear hc
        go_upto_region 8 with fail
        go_quiet (first | (go_at_call 17; (first | with_reducible exact Calls.quiet_of_same (t1 _) | with_reducible exact Calls.quiet_of_same (t2 _))) | (go_at_call 16; (first | with_reducible exact Calls.quiet_of_same (c1 _) | with_reducible exact Calls.quiet_of_same (c2 _))))
        clear c1 t1 c2 t2
        go_wp2_with fail
        exact ⟨⟨k + 1, by omega, rfl, by rw [HK.out]; rfl, HBd.out nq⟩, by simp [intOf]; omega⟩
      by_cases hle : l ≤ x
      · have HK2 : Hid (ctS s a b l (k + 1) = t + x) := by show _ = _; rw [HK.out]; exact if_pos ⟨rfl, hle⟩
        clear HK
        go_upto_region 8 with fail
        go_quiet (first | (go_at_call 17; (first | with_reducible exact Calls.quiet_of_same (t1 _) | with_reducible exact Calls.quiet_of_same (t2 _))) | (go_at_call 16; (first | with_reducible exact Calls.quiet_of_same (c1 _) | with_reducible exact Calls.quiet_of_same (c2 _))))
        clear c1 t1 c2 t2
        go_wp2_with fail
        exact ⟨⟨k + 1, by omega, rfl, by rw [HK2.out], HBd.out nq⟩, by simp [intOf]; omega⟩
      · have HK2 : Hid (ctS s a b l (k + 1) = t) := by show _ = _; rw [HK.out]; exact if_neg (fun h => hle h.2)
        clear HK
        go_upto_region 8 with fail
        go_quiet (first | (go_at_call 17; (first | with_reducible exact Calls.quiet_of_same (t1 _) | with_reducible exact Calls.quiet_of_same (t2 _))) | (go_at_call 16; (first | with_reducible exact Calls.quiet_of_same (c1 _) | with_reducible exact Calls.quiet_of_same (c2 _))))
        clear c1 t1 c2 t2
        go_wp2_with fail
        exact ⟨⟨k + 1, by omega, rfl, by rw [HK2.out], HBd.out nq⟩, by simp [intOf]; omega⟩
    · obtain rfl : k = 64 := by omega
      have HFF := hide (bnext HF1.out (Nat.le_refl _) HB.out)
      clear HB j0 j1
      go_wp2_with fail
      go_ret
      exact ⟨by rw [HV.out]; rfl, HFF.out⟩

end Go.Proofs.Ytlailkoikcjecaa
