/- When a brush is one: the specification and the program. -/
import Derived.Test.YtchbaegmkaibcaaSpt
import Derived.Laws.StructEq
import Derived.BigRegion
namespace Go.Proofs.Ytchbaegmkaibcaa
open Go.RowKit

/-- is the offset (x, y) among the first k -/
def dupB (g : Nat → Int) (x y : Int) : Nat → Bool
  | 0 => false
  | k + 1 => dupB g x y k || (decide (g (k * 2) = x) && decide (g (k * 2 + 1) = y))
theorem dupB_no {g : Nat → Int} {x y : Int} {k : Nat} (h : dupB g x y k = false) (hk : ¬ (g (k * 2) = x ∧ g (k * 2 + 1) = y)) : dupB g x y (k + 1) = false := by
  unfold dupB
  rw [h]
  simpa using hk
theorem dupB_yes {g : Nat → Int} {x y : Int} {k : Nat} (h1 : g (k * 2) = x) (h2 : g (k * 2 + 1) = y) : ∀ {n : Nat}, k < n → dupB g x y n = true
  | n + 1, h => by
    unfold dupB
    by_cases e : k = n
    · subst e; simp [h1, h2]
    · rw [dupB_yes h1 h2 (n := n) (by omega)]; rfl
/-- is offset number i right -/
def brI (g : Nat → Int) (i : Nat) : Bool := inB (g (i * 2)) (-5) 5 && inB (g (i * 2 + 1)) (-5) 5 && !dupB g (g (i * 2)) (g (i * 2 + 1)) i
def brushB (m : Nat) (g : Nat → Int) : Bool := decide (m ≤ 25) && allG (brI g) m
theorem brushB_parts {m : Nat} {g : Nat → Int} (h : brushB m g = true) : m ≤ 25 ∧ ∀ j, j < m * 2 → -5 ≤ g j ∧ g j ≤ 5 := by
  unfold brushB at h
  simp only [Bool.and_eq_true, decide_eq_true_eq] at h
  refine ⟨h.1, fun j hj => ?_⟩
  have h2 := allG_at h.2 (j / 2) (by omega)
  unfold brI inB at h2
  simp at h2
  have e : j = j / 2 * 2 ∨ j = j / 2 * 2 + 1 := by omega
  rcases e with e | e
  · rw [e]; omega
  · rw [e]; omega

set_option maxRecDepth 100000 in
set_option maxHeartbeats 1000000 in
theorem indexS_any (a : Option Addr) (m cap : Nat) (g : Nat → Int) (x y : Int) (hm : m ≤ 1048576) (w : World) (h : Px a (m * 2) g w) :
    Calls Try.prog 50 #[.slice a m cap, vSpot2 x y] w fun e w' => (∃ r : Int, e = .returned (.int .i64 r) ∧ decide (0 ≤ r) = dupB g x y m) ∧ Below w.heap.size w w' := by
  have HS0 := hide ((St.start w).box [.int .i64 x, .int .i64 y] 35)
  have HP := hide h
  clear h
  go_enter Try.func50, Try.ntmps50
  go_wp2_with fail
  go_loopw [8] (fun i wr => ∃ k : Nat, k ≤ m ∧ i = .int .i64 k ∧ St w [(w.heap.size, [.int .i64 x, .int .i64 y])] [] wr ∧ dupB g x y k = false) (fun i _ => m - (intOf i).toNat)
  case atStart => exact ⟨0, by omega, rfl, HS0.out, rfl⟩
  case round =>
    obtain ⟨k, hk, rfl, hS, hd⟩ := hrel
    have HS := hide hS
    have HD := hide hd
    clear hS hd HS0
    by_cases hlt : k < m
    · obtain ⟨b, off, rfl, hbl, c0, c1⟩ := (HP.out.below HS.out.below).atSpot2 hlt
      obtain ⟨z0, z1⟩ : wr.cell? ⟨w.heap.size, 0, none⟩ = some (.int .i64 x) ∧ wr.cell? ⟨w.heap.size, 1, none⟩ = some (.int .i64 y) := ⟨HS.out.cell 0 rfl 0 rfl, HS.out.cell 0 rfl 1 rfl⟩
      have HSd := hide HS.out.drew
      by_cases hc : g (k * 2) = x ∧ g (k * 2 + 1) = y
      · have HY : Hid (dupB g x y m = true) := dupB_yes hc.1 hc.2 hlt
        rw [hc.1] at c0
        rw [hc.2] at c1
        clear hc HD
        go_wp2_with fail
        go_region
        go_wp2_with fail
        go_ret
        exact ⟨⟨(k : Int), rfl, by rw [HY.out]; simp⟩, HSd.out.below⟩
      · have HN : Hid (dupB g x y (k + 1) = false) := dupB_no HD.out hc
        have HM : Hid (k + 1 ≤ m) := hlt
        clear HD HP
        generalize g (k * 2) = gx at *
        generalize g (k * 2 + 1) = gy at *
        by_cases e1 : x = gx
        · subst e1
          have e2 : ¬ y = gy := fun e => hc ⟨rfl, e.symm⟩
          clear hc
          go_wp2_with fail
          go_region
          go_wp2_with fail
          exact ⟨⟨k + 1, HM.out, rfl, HSd.out, HN.out⟩, by simp [intOf]; omega⟩
        · clear hc
          go_wp2_with fail
          go_region
          go_wp2_with fail
          exact ⟨⟨k + 1, HM.out, rfl, HSd.out, HN.out⟩, by simp [intOf]; omega⟩
    · obtain rfl : k = m := by omega
      go_wp2_with fail
      go_ret
      exact ⟨⟨-1, rfl, by rw [HD.out]; rfl⟩, HS.out.below⟩

set_option maxRecDepth 100000 in
set_option maxHeartbeats 1000000 in
theorem containsS_any (a : Option Addr) (m cap : Nat) (g : Nat → Int) (x y : Int) (hm : m ≤ 1048576) (w : World) (h : Px a (m * 2) g w) :
    Calls Try.prog 42 #[.slice a m cap, vSpot2 x y] w fun e w' => e = .returned (.bool (dupB g x y m)) ∧ Below w.heap.size w w' := by
  have HS0 := hide ((St.start w).box [.int .i64 x, .int .i64 y] 35)
  have c := indexS_any a m cap g x y hm _ (h.below HS0.out.below)
  clear h
  go_enter Try.func42, Try.ntmps42
  go_wp2_with fail
  refine c.mono ?_
  rintro e w1 ⟨⟨r, rfl, hr⟩, hb⟩
  have HS1 := hide (HS0.out.next hb)
  have HR := hide hr
  clear hb hr c
  go_wp2_with fail
  go_ret
  exact ⟨by rw [← HR.out]; simp, HS1.out.below⟩

set_option maxRecDepth 100000 in
set_option maxHeartbeats 2000000 in
theorem implBrushOk_any (a : Option Addr) (m cap : Nat) (g : Nat → Int) (hm : m ≤ 1048576) (hcap : m ≤ cap) (w : World) (h : Px a (m * 2) g w) :
    Calls Try.prog 20 #[.slice a m cap] w fun e w' => e = .returned (.bool (brushB m g)) ∧ Below w.heap.size w w' := by
  have HP := hide h
  clear h
  unfold brushB
  by_cases h25 : 25 < (m : Int)
  · have e : decide (m ≤ 25) = false := by simp; omega
    rw [e]
    go_enter Try.func20, Try.ntmps20
    go_wp2_with fail
    go_ret
    exact ⟨rfl, Below.refl _ _⟩
  have e : decide (m ≤ 25) = true := by simp; omega
  rw [e, Bool.true_and]
  clear e
  go_enter Try.func20, Try.ntmps20
  go_wp2_with fail
  go_loopw [10] (fun i wr => ∃ k : Nat, k ≤ m ∧ i = .int .i64 k ∧ Below w.heap.size w wr ∧ allG (brI g) k = true) (fun i _ => m - (intOf i).toNat)
  case atStart => exact ⟨0, by omega, rfl, Below.refl _ _, rfl⟩
  case round =>
    obtain ⟨k, hk, rfl, hB, hd⟩ := hrel
    have HB := hide hB
    have HD := hide hd
    clear hB hd
    by_cases hlt : k < m
    · have HPr := hide (HP.out.below HB.out)
      obtain ⟨b, off, rfl, hbl, c0, c1⟩ := HPr.out.atSpot2 hlt
      have HS0 := hide ((St.start wr).box [.int .i64 (g (k * 2)), .int .i64 (g (k * 2 + 1))] 35)
      have HPk : Hid (Px (some ⟨b, off, none⟩) (k * 2) g wr) := by
        rcases HPr.out with h | ⟨b', off', ha, h⟩
        · exact .inl (by omega)
        · exact .inr ⟨b', off', ha, fun j hj => h j (by omega)⟩
      have cX := fun w' => within_any (g (k * 2)) (-5) 5 w'
      have cY := fun w' => within_any (g (k * 2 + 1)) (-5) 5 w'
      have cC := fun cap w' h => containsS_any (some ⟨b, off, none⟩) k cap g (g (k * 2)) (g (k * 2 + 1)) (by omega) w' h
      have HY : Hid ((inB (g (k * 2)) (-5) 5 && inB (g (k * 2 + 1)) (-5) 5 && !dupB g (g (k * 2)) (g (k * 2 + 1)) k) = true → allG (brI g) (k + 1) = true) := fun h => by unfold allG; rw [HD.out]; exact h
      have HN : Hid ((inB (g (k * 2)) (-5) 5 && inB (g (k * 2 + 1)) (-5) 5 && !dupB g (g (k * 2)) (g (k * 2 + 1)) k) = false → allG (brI g) m = false) := fun h => allG_no k hlt h
      clear HD HPr HP
      generalize dupB g (g (k * 2)) (g (k * 2 + 1)) k = D at *
      generalize inB (g (k * 2)) (-5) 5 = P at *
      generalize inB (g (k * 2 + 1)) (-5) 5 = Q at *
      generalize g (k * 2) = gx at *
      generalize g (k * 2 + 1) = gy at *
      cases P
      · go_wp2_with fail
        refine (cX _).mono ?_
        rintro e w1 ⟨rfl, rfl⟩
        go_wp2_with fail
        go_ret
        exact ⟨by rw [HN.out rfl]; simp, HB.out.trans (HS0.out.below.mono HB.out.size)⟩
      cases Q
      · go_wp2_with fail
        refine (cX _).mono ?_
        rintro e w1 ⟨rfl, rfl⟩
        go_wp2_with fail
        refine (cY _).mono ?_
        rintro e w1 ⟨rfl, rfl⟩
        go_wp2_with fail
        go_ret
        exact ⟨by rw [HN.out rfl]; simp, HB.out.trans (HS0.out.below.mono HB.out.size)⟩
      go_wp2_with fail
      refine (cX _).mono ?_
      rintro e w1 ⟨rfl, rfl⟩
      go_wp2_with fail
      refine (cY _).mono ?_
      rintro e w1 ⟨rfl, rfl⟩
      clear cX cY c0 c1
      have hs : wr.heap.size < (wr.alloc (.cells #[.int .i64 gx, .int .i64 gy] 35)).heap.size := by simp
      have cC' := fun cap w' (hb : Below (wr.alloc (.cells #[.int .i64 gx, .int .i64 gy] 35)).heap.size (wr.alloc (.cells #[.int .i64 gx, .int .i64 gy] 35)) w') => cC cap w' (HPk.out.below (HS0.out.next hb).below)
      have hkc : k ≤ cap := by omega
      have HM : Hid (k + 1 ≤ m) := hlt
      have HBw := hide (fun w2 (hb : Below w.heap.size w (wr.alloc (.cells #[.int .i64 gx, .int .i64 gy] 35)).drew → Below w.heap.size w w2) => hb (HB.out.trans (HS0.out.below.drew.mono HB.out.size)))
      have hzz : w.heap.size ≤ (wr.alloc (.cells #[.int .i64 gx, .int .i64 gy] 35)).drew.heap.size := by
        have := HB.out.size
        simp
        omega
      have HZZ := hide hzz
      clear hzz
      cases D
      · go_wp2_with fail
        go_region_with (with_reducible refine (cC' _ _ (Below.refl _ _).drew).mono ?_; rintro e w2 ⟨rfl, hb⟩; have HB2 := hide (HBw.out w2 (fun h => h.trans (hb.mono HZZ.out))); clear hb)
        go_wp2_with fail
        exact ⟨⟨k + 1, HM.out, rfl, HB2.out, HY.out rfl⟩, by simp [intOf]; omega⟩
      · go_wp2_with fail
        go_region_with (with_reducible refine (cC' _ _ (Below.refl _ _).drew).mono ?_; rintro e w2 ⟨rfl, hb⟩; have HB2 := hide (HBw.out w2 (fun h => h.trans (hb.mono HZZ.out))); clear hb)
        go_wp2_with fail
        go_ret
        exact ⟨by rw [HN.out rfl]; simp, HB2.out⟩
    · obtain rfl : k = m := by omega
      go_wp2_with fail
      go_ret
      exact ⟨by rw [HD.out]; simp, HB.out⟩

set_option maxRecDepth 100000 in
set_option maxHeartbeats 2000000 in
theorem specBrushOk_any (a : Option Addr) (m cap : Nat) (g : Nat → Int) (hm : m ≤ 1048576) (w : World) (h : Px a (m * 2) g w) :
    Calls Try.prog 17 #[.slice a m cap] w fun e w' => e = .returned (.bool (brushB m g)) ∧ Below w.heap.size w w' := by
  have HP := hide h
  clear h
  unfold brushB
  by_cases h25 : 25 < (m : Int)
  · have e : decide (m ≤ 25) = false := by simp; omega
    rw [e]
    go_enter Try.func17, Try.ntmps17
    go_wp2_with fail
    go_ret
    exact ⟨rfl, Below.refl _ _⟩
  have e : decide (m ≤ 25) = true := by simp; omega
  rw [e, Bool.true_and]
  clear e
  go_enter Try.func17, Try.ntmps17
  go_wp2_with fail
  go_loopw [3] (fun i wr => ∃ k : Nat, k ≤ m ∧ i = .int .i64 k ∧ Below w.heap.size w wr ∧ allG (brI g) k = true) (fun i _ => m - (intOf i).toNat)
  case atStart => exact ⟨0, by omega, rfl, Below.refl _ _, rfl⟩
  case round =>
    obtain ⟨k, hk, rfl, hB, hd⟩ := hrel
    have HB := hide hB
    have HD := hide hd
    clear hB hd
    by_cases hlt : k < m
    · have HPr := hide (HP.out.below HB.out)
      obtain ⟨b, off, rfl, hbl, c0, c1⟩ := HPr.out.atSpot2 hlt
      have cX := fun w' => l1In_any (g (k * 2)) (-5) 5 w'
      have cY := fun w' => l1In_any (g (k * 2 + 1)) (-5) 5 w'
      have HY : Hid ((inB (g (k * 2)) (-5) 5 && inB (g (k * 2 + 1)) (-5) 5 && !dupB g (g (k * 2)) (g (k * 2 + 1)) k) = true → allG (brI g) (k + 1) = true) := fun h => by unfold allG; rw [HD.out]; exact h
      have HN : Hid ((inB (g (k * 2)) (-5) 5 && inB (g (k * 2 + 1)) (-5) 5 && !dupB g (g (k * 2)) (g (k * 2 + 1)) k) = false → allG (brI g) m = false) := fun h => allG_no k hlt h
      clear HD
      have HGX : ∃ gx, gx = g (k * 2) := ⟨_, rfl⟩
      have HGY : ∃ gy, gy = g (k * 2 + 1) := ⟨_, rfl⟩
      obtain ⟨gx, hgx⟩ := HGX
      obtain ⟨gy, hgy⟩ := HGY
      rw [← hgx] at c0 cX HY HN
      rw [← hgy] at c1 cY HY HN
      have HGX := hide hgx
      have HGY := hide hgy
      clear hgx hgy
      generalize inB gx (-5) 5 = P at *
      generalize inB gy (-5) 5 = Q at *
      cases P
      · clear HP HPr
        go_wp2_with fail
        refine (cX _).mono ?_
        rintro e w1 ⟨rfl, rfl⟩
        go_wp2_with fail
        go_ret
        exact ⟨by rw [HN.out rfl]; simp, HB.out⟩
      cases Q
      · clear HP HPr
        go_wp2_with fail
        refine (cX _).mono ?_
        rintro e w1 ⟨rfl, rfl⟩
        go_wp2_with fail
        refine (cY _).mono ?_
        rintro e w1 ⟨rfl, rfl⟩
        go_wp2_with fail
        go_ret
        exact ⟨by rw [HN.out rfl]; simp, HB.out⟩
      have HM : Hid (k + 1 ≤ m) := hlt
      go_wp2_with fail
      refine (cX _).mono ?_
      rintro e w1 ⟨rfl, rfl⟩
      go_wp2_with fail
      refine (cY _).mono ?_
      rintro e w1 ⟨rfl, rfl⟩
      clear cX cY
      go_wp2_with fail
      go_loopw [4] (fun i wr => ∃ q : Nat, q ≤ k ∧ i = .int .i64 q ∧ Below w.heap.size w wr ∧ dupB g gx gy q = false) (fun i _ => k - (intOf i).toNat)
      case atStart => exact ⟨0, by omega, rfl, HB.out, rfl⟩
      case round =>
        obtain ⟨q, hq, rfl, hB, hd⟩ := hrel
        have HB2 := hide hB
        have HD := hide hd
        clear hB hd
        by_cases hqk : q < k
        · have HPq := hide (HP.out.below HB2.out)
          obtain ⟨b', off', ea, _, d0, d1⟩ := HPq.out.atSpot2 (show q < m by omega)
          cases ea
          obtain ⟨b', off', ea, _, d2, d3⟩ := HPq.out.atSpot2 hlt
          cases ea
          rw [← HGX.out] at d2
          rw [← HGY.out] at d3
          have HBd := hide HB2.out.drew
          have HQ1 : Hid (q + 1 ≤ k) := hqk
          by_cases hc : g (q * 2) = gx ∧ g (q * 2 + 1) = gy
          · have HN2 : Hid (allG (brI g) m = false) := HN.out (by
              have : dupB g gx gy k = true := dupB_yes hc.1 hc.2 hqk
              rw [this]; rfl)
            rw [hc.1] at d0
            rw [hc.2] at d1
            clear hc HN HY HD HPq HP
            go_wp2_with fail
            go_region
            go_wp2_with fail
            go_ret
            exact ⟨by rw [HN2.out]; simp, HBd.out⟩
          · have HN2 : Hid (dupB g gx gy (q + 1) = false) := dupB_no HD.out hc
            clear HD HPq HP HN HY HGX HGY
            generalize g (q * 2) = qx at *
            generalize g (q * 2 + 1) = qy at *
            by_cases e1 : qx = gx
            · subst e1
              have e2 : ¬ qy = gy := fun e => hc ⟨rfl, e⟩
              clear hc
              go_wp2_with fail
              go_region
              go_wp2_with fail
              exact ⟨⟨q + 1, HQ1.out, rfl, HBd.out, HN2.out⟩, by simp [intOf]; omega⟩
            · clear hc
              go_wp2_with fail
              go_region
              go_wp2_with fail
              exact ⟨⟨q + 1, HQ1.out, rfl, HBd.out, HN2.out⟩, by simp [intOf]; omega⟩
        · obtain rfl : q = k := by omega
          have HA : Hid (allG (brI g) (q + 1) = true) := HY.out (by rw [HD.out]; rfl)
          clear HY HN HD
          go_wp2_with fail
          exact ⟨⟨q + 1, HM.out, rfl, HB2.out, HA.out⟩, by simp [intOf]; omega⟩
    · obtain rfl : k = m := by omega
      go_wp2_with fail
      go_ret
      exact ⟨by rw [HD.out]; simp, HB.out⟩

end Go.Proofs.Ytchbaegmkaibcaa
