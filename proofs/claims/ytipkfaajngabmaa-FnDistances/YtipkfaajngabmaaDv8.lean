/- Distance, the program: what is visited, the two passes. -/
import Derived.Test.YtipkfaajngabmaaDnu
import Derived.Lib.MinMax
namespace Go.Proofs.Ytipkfaajngabmaa
open Go.RowKit

set_option maxRecDepth 100000 in
theorem lwyVis_fn : ∀ ar w, Sem.run Try.prog (callFunc 67 ar) w = .ok (.enter 67 ar) w := fun _ _ => rfl
set_option maxRecDepth 100000 in
theorem lwyPix_fn : ∀ ar w, Sem.run Try.prog (callFunc 66 ar) w = .ok (.enter 66 ar) w := fun _ _ => rfl
set_option maxRecDepth 100000 in
theorem dis1_fn : ∀ ar w, Sem.run Try.prog (callFunc 48 ar) w = .ok (.enter 48 ar) w := fun _ _ => rfl
set_option maxRecDepth 100000 in
theorem dis2_fn : ∀ ar w, Sem.run Try.prog (callFunc 49 ar) w = .ok (.enter 49 ar) w := fun _ _ => rfl

set_option maxRecDepth 100000 in
theorem dis1_any (p : Int) (w : World) : Calls Try.prog 48 #[.int .i64 p] w fun e w' => e = .returned (.int .i64 (-1)) ∧ Below w.heap.size w w' := by
  go_enter Try.func48, Try.ntmps48
  go_wp2_with fail
  go_ret
  exact ⟨rfl, Below.refl _ _⟩

set_option maxRecDepth 100000 in
set_option maxHeartbeats 1000000 in
theorem dis2_any (W H : Int) (k : Nat) (a : Option Addr) (n cap : Nat) (f : Nat → Int) (hk : k < n) (hf : bit1 f n) (bp : Nat) (w : World) (hb : Bx bp [.int .i64 W, .int .i64 H, .slice a n cap] w) (hx : Px a n f w) :
    Calls Try.prog 49 #[.int .i64 k, .pointer (some ⟨bp, 0, none⟩)] w fun e w' => e = .returned (.int .i64 (farF f k)) ∧ Below w.heap.size w w' := by
  obtain ⟨b, off, rfl, hy⟩ := hx.at hk
  have p2 := (hb 2 _ rfl).1
  have hkn : (k : Int) < n := by omega
  unfold farF
  have hb1 := hf k hk
  generalize f k = y at *
  clear hx hb hf
  rcases hb1 with rfl | rfl
  all_goals
    go_enter Try.func49, Try.ntmps49
    go_wp2_with fail
    go_ret
    exact ⟨rfl, Below.refl _ _⟩

set_option maxRecDepth 100000 in
set_option maxHeartbeats 1000000 in
theorem lwyVis_any (W H : Int) (a : Option Addr) (n cap : Nat) (p : Nat → Int) (a2 : Option Addr) (m cap2 : Nat) (g : Nat → Int) (k : Nat) (q v : Int) (hk : k < m) (h0 : 0 ≤ q) (h1 : q < n) (c bp bo : Nat) (w : World) (hp : 0 ≤ p q.toNat ∧ p q.toNat ≤ 8192) (hgx : -64 ≤ g (k * 2) ∧ g (k * 2) ≤ 64) (hgy : -64 ≤ g (k * 2 + 1) ∧ g (k * 2 + 1) ≤ 64)
    (hcw : c < w.heap.size) (hbpw : bp < w.heap.size)
    (hz : Bx c [.int .i64 v] w) (hs : Bx bo [.slice a2 m cap2] w) (hb : Bx bp [.int .i64 W, .int .i64 H, .slice a n cap] w) (hx : Px a n p w) (hy : Px a2 (m * 2) g w) :
    Calls Try.prog 67 #[.int .i64 k, .int .i64 q, .pointer (some ⟨bo, 0, none⟩), .pointer (some ⟨c, 0, none⟩), .pointer (some ⟨bp, 0, none⟩)] w fun e w' => e = .returned (.tuple #[]) ∧ KpS (· = c) w w' ∧ Bx c [.int .i64 (min v (p q.toNat + g (k * 2) * g (k * 2) + g (k * 2 + 1) * g (k * 2 + 1)))] w' := by
  obtain ⟨b, off, rfl, hy1⟩ := hx.at' h0 h1
  have hbl := World.block_lt_of_cell? w _ hy1
  obtain ⟨b', off', rfl, hbl', c0, c1⟩ := hy.atSpot2 hk
  obtain ⟨z0, z1⟩ := hz 0 _ rfl
  have s0 := (hs 0 _ rfl).1
  have p2 := (hb 2 _ rfl).1
  have hkm : (k : Int) < m := by omega
  have hm1 := natb (a := g (k * 2)) (b := g (k * 2)) (P := 64) (Q := 64) (by omega) (by omega)
  have hm2 := natb (a := g (k * 2 + 1)) (b := g (k * 2 + 1)) (P := 64) (Q := 64) (by omega) (by omega)
  generalize p q.toNat = y at *
  generalize g (k * 2) = gx at *
  generalize g (k * 2 + 1) = gy at *
  obtain ⟨X, hX⟩ : ∃ X, gx * gx = X := ⟨_, rfl⟩
  obtain ⟨Y, hY⟩ : ∃ Y, gy * gy = Y := ⟨_, rfl⟩
  rw [hX] at hm1 ⊢
  rw [hY] at hm2 ⊢
  obtain ⟨S1, hS1⟩ : ∃ S1, y + X = S1 := ⟨_, rfl⟩
  obtain ⟨S2, hS2⟩ : ∃ S2, S1 + Y = S2 := ⟨_, rfl⟩
  have e1 : IntKind.i64.wrap (gx * gx) = X := by rw [hX, IntKind.wrap_i64]; omega
  have e2 : IntKind.i64.wrap (gy * gy) = Y := by rw [hY, IntKind.wrap_i64]; omega
  have e3 : IntKind.i64.wrap (y + X) = S1 := by rw [hS1, IntKind.wrap_i64]; omega
  have e4 : IntKind.i64.wrap (S1 + Y) = S2 := by rw [hS2, IntKind.wrap_i64]; omega
  rw [hS1, hS2]
  have hbw := bnew w (.cells #[.int .i64 gx, .int .i64 gy] 40)
  have HZ := hide ((hz.below hbw hcw).set 0 (.int .i64 (min v S2)))
  have HK := hide ((KpS.of_below (S := (· = c)) hbw).setCell (a := ⟨c, 0, none⟩) rfl (.int .i64 (min v S2)))
  clear hx hz hb hs hy hX hY hS1 hS2 hm1 hm2 hp hgx hgy
  obtain ⟨w2, hw2⟩ : ∃ w2, w.alloc (.cells #[.int .i64 gx, .int .i64 gy] 40) = w2 := ⟨_, rfl⟩
  rw [hw2] at HZ HK hbw
  have x0 : w2.cell? ⟨w.heap.size, 0, none⟩ = some (.int .i64 gx) := by rw [← hw2]; simp [go_sem]
  have x1 : w2.cell? ⟨w.heap.size, 1, none⟩ = some (.int .i64 gy) := by rw [← hw2]; simp [go_sem]
  have x2 := (hbw.cell (p := ⟨c, 0, none⟩) hcw).trans z0
  have x3 := (hbw.frozen (p := ⟨c, 0, none⟩) hcw).trans z1
  have x4 := (hbw.cell (p := ⟨bp, 2, none⟩) hbpw).trans p2
  have x5 := (hbw.cell (p := ⟨b, off + q.toNat, none⟩) hbl).trans hy1
  clear z0 z1 p2 hy1 hbw
  go_enter Try.func67, Try.ntmps67
  go_wp2_with fail
  clear hw2 c0 c1 s0
  go_region
  go_wp2_with fail
  go_end0
  exact ⟨rfl, HK.out.drew, HZ.out⟩

set_option maxRecDepth 100000 in
set_option maxHeartbeats 1000000 in
theorem lwyPix_any (W H : Int) (j : Nat) (a : Option Addr) (n cap : Nat) (p : Nat → Int) (hn : (n : Int) = W * H) (hW : 1 ≤ W) (hW' : W ≤ 64) (hH : 1 ≤ H) (hH' : H ≤ 64) (hj : j < 4096) (hpb : ∀ k, k < n → 0 ≤ p k ∧ p k ≤ 8192)
    (a2 : Option Addr) (m cap2 : Nat) (g : Nat → Int) (hm : m ≤ 1048576) (hg : ∀ j, j < m * 2 → -64 ≤ g j ∧ g j ≤ 64) (bp bq : Nat) (w : World)
    (hb : Bx bp [.int .i64 W, .int .i64 H, .slice a n cap] w) (hq : Bx bq [.slice a2 m cap2] w) (hx : Px a n p w) (hy : Px a2 (m * 2) g w) :
    Calls Try.prog 66 #[.int .i64 j, .pointer (some ⟨bp, 0, none⟩), .pointer (some ⟨bq, 0, none⟩)] w fun e w' => e = .returned (.int .i64 (lwF W H p g m j)) ∧ Below w.heap.size w w' := by
  have hbp : bp < w.heap.size := World.block_lt_of_cell? w ⟨bp, 0, none⟩ (hb 0 _ rfl).1
  have hbq : bq < w.heap.size := World.block_lt_of_cell? w ⟨bq, 0, none⟩ (hq 0 _ rfl).1
  have hw1 := bnew w (.cells #[.int .i64 8192] 2)
  have h1 : ∀ wr, KpS (· = w.heap.size) (w.alloc (.cells #[.int .i64 8192] 2)) wr → Bx bp [.int .i64 W, .int .i64 H, .slice a n cap] wr ∧ Bx bq [.slice a2 m cap2] wr ∧ Px a n p wr ∧ Px a2 (m * 2) g wr := by
    intro wr hk
    refine ⟨hk.bx (by show bp ≠ _; omega) (by simp; omega) (hb.below hw1 hbp), hk.bx (by show bq ≠ _; omega) (by simp; omega) (hq.below hw1 hbq), ?_, ?_⟩
    · by_cases h0 : n = 0
      · exact .inl h0
      · exact hk.px (fun b off e => hx.block_ne (Nat.le_refl _) (by omega) b off e) (hx.below hw1)
    · by_cases h0 : m = 0
      · exact .inl (by omega)
      · exact hk.px (fun b off e => hy.block_ne (Nat.le_refl _) (by omega) b off e) (hy.below hw1)
  have cV := visitFold_any W H j a2 m cap2 g hm hW hW' hH hH' (by omega) (by omega) hg _ lwyVis_fn #[.pointer (some ⟨bq, 0, none⟩), .pointer (some ⟨w.heap.size, 0, none⟩), .pointer (some ⟨bp, 0, none⟩)] (fun i q v => min v (p q.toNat + g (i * 2) * g (i * 2) + g (i * 2 + 1) * g (i * 2 + 1))) 8192 w.heap.size (w.alloc (.cells #[.int .i64 8192] 2)) (by simp)
    (Bx.new [.int .i64 8192] 2 w) (hy.below hw1) (fun b off h0 e => hy.block_ne (Nat.le_refl _) (by omega) b off e)
    (fun k wr hkm hq hk hbx => by
      obtain ⟨q0, q1⟩ := place_lt hq hn
      have hsz := hk.size
      simp at hsz
      exact lwyVis_any W H a n cap p a2 m cap2 g k _ _ hkm q0 q1 w.heap.size bp bq wr (hpb _ (by omega)) (hg _ (by omega)) (hg _ (by omega)) (by omega) (by omega) hbx (h1 wr hk).2.1 (h1 wr hk).1 (h1 wr hk).2.2.1 (h1 wr hk).2.2.2)
  obtain ⟨p0, p1, p2⟩ : w.cell? ⟨bp, 0, none⟩ = some (.int .i64 W) ∧ w.cell? ⟨bp, 1, none⟩ = some (.int .i64 H) ∧ w.cell? ⟨bp, 2, none⟩ = some (.slice a n cap) := ⟨(hb 0 _ rfl).1, (hb 1 _ rfl).1, (hb 2 _ rfl).1⟩
  have q0 := (hq 0 _ rfl).1
  clear hb hq hx hy h1 hw1 hpb hg hn
  unfold lwF
  generalize vis W H j g (fun i q v => min v (p q.toNat + g (i * 2) * g (i * 2) + g (i * 2 + 1) * g (i * 2 + 1))) 8192 m = R at *
  go_enter Try.func66, Try.ntmps66
  go_wp2_with fail
  refine cV.mono ?_
  rintro e w2 ⟨rfl, hk, hbx⟩
  have r0 := (hbx 0 _ rfl).1
  have HB : Hid (Below w.heap.size w w2) := (bnew w _).trans (hk.below (fun b h => by subst h; exact Nat.le_refl _) (by simp))
  clear hk hbx cV
  go_wp2_with fail
  go_ret
  exact ⟨rfl, HB.out⟩

set_option maxRecDepth 100000 in
set_option maxHeartbeats 1000000 in
theorem leastWays_any (W H : Int) (a : Option Addr) (n cap : Nat) (p : Nat → Int) (hl : n ≤ 4096) (hn : (n : Int) = W * H) (hW : 1 ≤ W) (hW' : W ≤ 64) (hH : 1 ≤ H) (hH' : H ≤ 64) (hpb : ∀ k, k < n → 0 ≤ p k ∧ p k ≤ 8192)
    (a2 : Option Addr) (m cap2 : Nat) (g : Nat → Int) (hm : m ≤ 1048576) (hg : ∀ j, j < m * 2 → -64 ≤ g j ∧ g j ≤ 64) (w : World) (hx : Px a n p w) (hy : Px a2 (m * 2) g w) :
    Calls Try.prog 50 #[im W H a n cap, .slice a2 m cap2] w (ImR W H n (lwF W H p g m) w) := by
  have HS0 := hide ((((St.start w).box [.int .i64 W, .int .i64 H, .slice a n cap] 57).box' [.slice a2 m cap2] 35 (b := w.heap.size + 1) (by simp)).box' [.int .i64 0, .int .i64 0, .slice none 0 0] 57 (b := w.heap.size + 2) (by simp))
  have hbl := HS0.out.below
  have cF := filtered_any W H a n cap (by omega) _ lwyPix_fn #[.pointer (some ⟨w.heap.size, 0, none⟩), .pointer (some ⟨w.heap.size + 1, 0, none⟩)] (lwF W H p g m) _
      (fun k wr hk hbr => lwyPix_any W H k a n cap p hn hW hW' hH hH' (by omega) hpb a2 m cap2 g hm hg w.heap.size (w.heap.size + 1) wr
        ((HS0.out.next hbr).bx (w.heap.size, [.int .i64 W, .int .i64 H, .slice a n cap]) (by simp)) ((HS0.out.next hbr).bx (w.heap.size + 1, [.slice a2 m cap2]) (by simp)) (hx.below (HS0.out.next hbr).below) (hy.below (HS0.out.next hbr).below))
  clear hx hy hpb hg hn hbl
  go_enter Try.func50, Try.ntmps50
  go_wp2_with fail
  refine cF.mono ?_
  rintro e w1 ⟨a1, c1, b1, rfl, ho, h1, hb⟩
  have HS1 := hide (HS0.out.own hb ho.v h1)
  obtain ⟨z0, z1, z2⟩ := HS1.out.im3 0 rfl
  obtain ⟨e0, e1, e2⟩ := HS1.out.fr3 0 rfl
  clear cF ho h1 hb HS0
  go_wp2_with fail
  exact bodyPost_ret (v := im W H a1 n c1) (by simp [results, Try.results50, go_sem, z0, z1, z2]) rfl ((HS1.out.fill3 _ _ _).imR W H c1)

/-- is x among the first k -/
def hasN (f : Nat → Int) (x : Int) : Nat → Bool
  | 0 => false
  | k + 1 => hasN f x k || decide (f k = x)
theorem hasN_yes {f : Nat → Int} {x : Int} {k : Nat} (h : f k = x) : ∀ {n : Nat}, k < n → hasN f x n = true
  | n + 1, hk => by
    unfold hasN
    by_cases e : k = n
    · subst e; simp [h]
    · rw [hasN_yes h (n := n) (by omega)]; rfl
theorem hasN_ex {f : Nat → Int} {x : Int} : ∀ {n : Nat}, hasN f x n = true → ∃ k, k < n ∧ f k = x
  | n + 1, h => by
    unfold hasN at h
    rw [Bool.or_eq_true] at h
    rcases h with h | h
    · obtain ⟨k, h1, h2⟩ := hasN_ex h; exact ⟨k, by omega, h2⟩
    · exact ⟨n, by omega, by simpa using h⟩
theorem hasN_no {f : Nat → Int} {x : Int} {n : Nat} (h : hasN f x n = false) : ∀ k, k < n → f k ≠ x := fun k hk e => by rw [hasN_yes e hk] at h; cases h

set_option maxRecDepth 100000 in
set_option maxHeartbeats 1000000 in
theorem indexN_any (a : Option Addr) (n cap : Nat) (f : Nat → Int) (x : Int) (hl : n ≤ 1048576) (w : World) (h : Px a n f w) :
    Calls Try.prog 65 #[.slice a n cap, .int .i64 x] w fun e w' => (∃ r : Int, e = .returned (.int .i64 r) ∧ decide (0 ≤ r) = hasN f x n) ∧ w' = w := by
  have HP := hide h
  clear h
  go_enter Try.func65, Try.ntmps65
  go_wp2_with fail
  go_loop [8] (fun i => ∃ k : Nat, k ≤ n ∧ i = .int .i64 k ∧ hasN f x k = false) (fun i => n - (intOf i).toNat)
  case atStart => exact ⟨0, by omega, rfl, rfl⟩
  case round =>
    obtain ⟨k, hk, rfl, hd⟩ := hrel
    have HD := hide hd
    clear hd
    by_cases hlt : k < n
    · obtain ⟨b, off, rfl, hc⟩ := HP.out.at hlt
      by_cases hx : f k = x
      · have HY : Hid (hasN f x n = true) := hasN_yes hx hlt
        rw [hx] at hc
        clear hx HD HP
        go_wp2_with fail
        go_ret
        exact ⟨⟨(k : Int), rfl, by rw [HY.out]; simp⟩, rfl⟩
      · have HN : Hid (hasN f x (k + 1) = false) := by show _ = _; unfold hasN; rw [HD.out]; simpa using hx
        have hne : (x == f k) = false := by simpa using fun e => hx e.symm
        have hne2 : ¬ x = f k := fun e => hx e.symm
        clear HD HP hx
        generalize f k = y at *
        go_wp2_with fail
        exact ⟨⟨k + 1, by omega, rfl, HN.out⟩, by simp [intOf]; omega⟩
    · obtain rfl : k = n := by omega
      go_wp2_with fail
      go_ret
      exact ⟨⟨-1, rfl, by rw [HD.out]; rfl⟩, rfl⟩

set_option maxRecDepth 100000 in
theorem containsN_any (a : Option Addr) (n cap : Nat) (f : Nat → Int) (x : Int) (hl : n ≤ 1048576) (w : World) (h : Px a n f w) :
    Calls Try.prog 47 #[.slice a n cap, .int .i64 x] w fun e w' => e = .returned (.bool (hasN f x n)) ∧ w' = w := by
  have c := indexN_any a n cap f x hl w h
  clear h
  go_enter Try.func47, Try.ntmps47
  go_wp2_with fail
  refine c.mono ?_
  rintro e w1 ⟨⟨r, rfl, hr⟩, rfl⟩
  have HR := hide hr
  clear hr c
  go_wp2_with fail
  go_ret
  exact ⟨by rw [← HR.out]; simp, rfl⟩

end Go.Proofs.Ytipkfaajngabmaa
