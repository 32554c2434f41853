/- The program's density. -/
import Derived.Test.YtadeajdjjcelhaaPlc
namespace Go.Proofs.Ytadeajdjjcelhaa
open Go.RowKit
set_option maxRecDepth 100000
set_option maxHeartbeats 2000000

/-- placed shapes lie in a slice -/
def Pl (a : Option Addr) (n : Nat) (g : Nat → Int) (w : World) : Prop :=
  n = 0 ∨ ∃ b, a = some ⟨b, 0, none⟩ ∧ ∀ k, k < n → w.cell? ⟨b, k * 4, none⟩ = some (outl (g (k * 7)) (g (k * 7 + 3)) (g (k * 7 + 4)) (g (k * 7 + 5))) ∧ w.cell? ⟨b, k * 4 + 1, none⟩ = some (.int .i64 (g (k * 7 + 1))) ∧ w.cell? ⟨b, k * 4 + 2, none⟩ = some (.int .i64 (g (k * 7 + 2))) ∧ w.cell? ⟨b, k * 4 + 3, none⟩ = some (.int .i64 (g (k * 7 + 6)))

theorem Pl.below {a : Option Addr} {n : Nat} {g : Nat → Int} {w w' : World} (h : Pl a n g w) (hb : Below w.heap.size w w') : Pl a n g w' := by
  rcases h with h | ⟨b, ha, h⟩
  · exact .inl h
  · refine .inr ⟨b, ha, fun k hk => ?_⟩
    obtain ⟨h0, h1, h2, h3⟩ := h k hk
    have hl := World.block_lt_of_cell? w _ h0
    exact ⟨(hb.cell (p := ⟨b, k * 4, none⟩) hl).trans h0, (hb.cell (p := ⟨b, k * 4 + 1, none⟩) hl).trans h1, (hb.cell (p := ⟨b, k * 4 + 2, none⟩) hl).trans h2, (hb.cell (p := ⟨b, k * 4 + 3, none⟩) hl).trans h3⟩

theorem pl_of {w : World} {B n : Nat} {v : Value} {g : Nat → Int} (h : w.ownsRow B 89 4 v n (plist g n)) : ∃ a cap, v = .slice a n cap ∧ Pl a n g w := by
  have h' := h
  obtain ⟨hlen, hv | ⟨b, cap, cur, hv, hg, hcur, hn, hm, _, _⟩⟩ := h'
  · obtain ⟨rfl, rfl⟩ := hv
    exact ⟨none, 0, rfl, .inl rfl⟩
  · subst hv
    refine ⟨some ⟨b, 0, none⟩, cap, rfl, .inr ⟨b, rfl, fun k hk => ?_⟩⟩
    refine ⟨?_, ?_, ?_, ?_⟩
    · rw [h.cellAt (k * 4) (by omega)]; exact plist_at g n k 0 hk (by omega)
    · rw [h.cellAt (k * 4 + 1) (by omega)]; exact plist_at g n k 1 hk (by omega)
    · rw [h.cellAt (k * 4 + 2) (by omega)]; exact plist_at g n k 2 hk (by omega)
    · rw [h.cellAt (k * 4 + 3) (by omega)]; exact plist_at g n k 3 hk (by omega)

/-- one round of densityAt, kind by kind -/
theorem insG_eq {g : Nat → Int} {n k : Nat} {x y : Int} (h : okS g n = true) (hk : k < n) (hx : inB x (-100000) 100000 = true) (hy : inB y (-100000) 100000 = true) :
    insG g x y k = insB (g (k * 7)) (g (k * 7 + 3)) (g (k * 7 + 4)) (g (k * 7 + 5)) (x - g (k * 7 + 1)) (y - g (k * 7 + 2)) := by
  unfold okS at h
  simp only [Bool.and_eq_true] at h
  have hS : shapeB (g (k * 7)) (g (k * 7 + 1)) (g (k * 7 + 2)) (g (k * 7 + 3)) (g (k * 7 + 4)) (g (k * 7 + 5)) (g (k * 7 + 6)) = true := allG_at h.2 k hk
  unfold insG insideB
  rw [hS, hx, hy]; simp

set_option maxHeartbeats 8000000 in
theorem densityAt_any (a : Option Addr) (n cap : Nat) (g : Nat → Int) (hO : okS g n = true) (x y : Int) (hx : inB x (-100000) 100000 = true) (hy : inB y (-100000) 100000 = true) (w : World) (h : Pl a n g w) :
    Calls Try.prog 44 #[.slice a n cap, .int .i64 x, .int .i64 y] w fun e w' => e = .returned (.int .i64 (dens g x y n)) ∧ Below w.heap.size w w' := by
  have HP : Hid (Pl a n g w) := h
  have h64 := okS_le hO
  clear h
  go_enter Try.func44, Try.ntmps44
  go_wp2
  go_loopw [7, 12] (fun s i wr => ∃ k : Nat, k ≤ n ∧ i = .int .i64 k ∧ s = .int .i64 (dens g x y k) ∧ Below w.heap.size w wr) (fun _ i _ => n - (intOf i).toNat)
  case atStart => exact ⟨0, by omega, rfl, rfl, Below.refl _ _⟩
  case round =>
    obtain ⟨k, hk, rfl, rfl, hb⟩ := hrel
    by_cases hlt : k < n
    · rcases HP.out.below hb with h0 | ⟨b, rfl, hc⟩
      · omega
      obtain ⟨z0, z1, z2, z3⟩ := hc k hlt
      clear HP hc
      have hS : shapeB (g (k * 7)) (g (k * 7 + 1)) (g (k * 7 + 2)) (g (k * 7 + 3)) (g (k * 7 + 4)) (g (k * 7 + 5)) (g (k * 7 + 6)) = true := by
        have h := hO
        unfold okS at h
        simp only [Bool.and_eq_true] at h
        exact allG_at h.2 k hlt
      have hI := insG_eq hO hlt hx hy
      have hd := dens_bound (x := x) (y := y) hO k hk
      have hv := val_bound hO hlt
      have hDS : dens g x y (k + 1) = dens g x y k + if insG g x y k = true then g (k * 7 + 6) else 0 := rfl
      obtain ⟨bX, bY, bA, bB, bC, _, _, _⟩ := shape_bounds hS
      have bd := point_bounds hx bX
      have be := point_bounds hy bY
      have hKd := kind_of hS
      clear hS hO hx hy bX bY
      have wd : IntKind.i64.wrap (x - g (k * 7 + 1)) = x - g (k * 7 + 1) := wrapn bd (by omega)
      have we : IntKind.i64.wrap (y - g (k * 7 + 2)) = y - g (k * 7 + 2) := wrapn be (by omega)
      have hw : IntKind.i64.wrap (dens g x y k + g (k * 7 + 6)) = dens g x y k + g (k * 7 + 6) := wrapn (P := 1000 * 64 + 1000) (by omega) (by omega)
      generalize hDK : dens g x y k = D at *
      generalize g (k * 7 + 1) = X at *
      generalize g (k * 7 + 2) = Y at *
      generalize g (k * 7 + 3) = A at *
      generalize g (k * 7 + 4) = B at *
      generalize g (k * 7 + 5) = C at *
      generalize g (k * 7 + 6) = V at *
      generalize g (k * 7) = K at *
      have HB0 : Hid (Below w.heap.size w (wr.alloc (.cells #[outl K A B C, .int .i64 X, .int .i64 Y, .int .i64 V] 89))) := bnext hb (Nat.le_refl _) (bnew _ _)
      have q3 : (wr.alloc (.cells #[outl K A B C, .int .i64 X, .int .i64 Y, .int .i64 V] 89)).cell? ⟨wr.heap.size, 3, none⟩ = some (.int .i64 V) := by simp [go_sem]
      clear hd hv hb hDK
      rcases hKd with rfl | rfl | rfl | rfl
      · have cH := has1 A B C (x - X) (y - Y) bA bB
        have n1 := nil95 A B
        have n2 := met95 A B
        clear bA bB bC bd be
        rw [show outl 1 A B C = .iface 96 (.agg #[.int .i64 A, .int .i64 B]) from rfl] at z0 q3 HB0
        cases hG : insB 1 A B C (x - X) (y - Y)
        · rw [hG] at cH hI
          rw [hI] at hDS
          simp only [Bool.false_eq_true, if_false, Int.add_zero] at hDS
          clear hI hG
          go_wp2_with fail
          refine (cH _).mono ?_
          rintro e w4 ⟨rfl, hb4⟩
          have HB4 : Hid (Below w.heap.size w w4) := bnext HB0.out (Nat.le_refl _) hb4
          clear hb4 HB0 z0 z1 z2 z3 q3 cH n1 n2
          go_wp2_with fail
          exact ⟨⟨k + 1, by omega, rfl, by rw [hDS], HB4.out⟩, by simp [intOf]; omega⟩
        · rw [hG] at cH hI
          rw [hI] at hDS
          simp only [if_true] at hDS
          clear hI hG
          go_wp2_with fail
          refine (cH _).mono ?_
          rintro e w4 ⟨rfl, hb4⟩
          have HB4 : Hid (Below w.heap.size w w4) := bnext HB0.out (Nat.le_refl _) hb4
          have q3' := (hb4.cell (p := ⟨wr.heap.size, 3, none⟩) (by simp)).trans q3
          clear hb4 HB0 z0 z1 z2 z3 q3 cH n1 n2
          go_wp2_with fail
          exact ⟨⟨k + 1, by omega, rfl, by rw [hDS], HB4.out⟩, by simp [intOf]; omega⟩
      · have cH := has2 A B C (x - X) (y - Y) bA bB bd be
        have n1 := nil96 A B
        have n2 := met96 A B
        clear bA bB bC bd be
        rw [show outl 2 A B C = .iface 97 (.agg #[.int .i64 A, .int .i64 B]) from rfl] at z0 q3 HB0
        cases hG : insB 2 A B C (x - X) (y - Y)
        · rw [hG] at cH hI
          rw [hI] at hDS
          simp only [Bool.false_eq_true, if_false, Int.add_zero] at hDS
          clear hI hG
          go_wp2_with fail
          refine (cH _).mono ?_
          rintro e w4 ⟨rfl, hb4⟩
          have HB4 : Hid (Below w.heap.size w w4) := bnext HB0.out (Nat.le_refl _) hb4
          clear hb4 HB0 z0 z1 z2 z3 q3 cH n1 n2
          go_wp2_with fail
          exact ⟨⟨k + 1, by omega, rfl, by rw [hDS], HB4.out⟩, by simp [intOf]; omega⟩
        · rw [hG] at cH hI
          rw [hI] at hDS
          simp only [if_true] at hDS
          clear hI hG
          go_wp2_with fail
          refine (cH _).mono ?_
          rintro e w4 ⟨rfl, hb4⟩
          have HB4 : Hid (Below w.heap.size w w4) := bnext HB0.out (Nat.le_refl _) hb4
          have q3' := (hb4.cell (p := ⟨wr.heap.size, 3, none⟩) (by simp)).trans q3
          clear hb4 HB0 z0 z1 z2 z3 q3 cH n1 n2
          go_wp2_with fail
          exact ⟨⟨k + 1, by omega, rfl, by rw [hDS], HB4.out⟩, by simp [intOf]; omega⟩
      · have cH := has3 A B C (x - X) (y - Y) bA bB bC bd be
        have n1 := nil98 A B C
        have n2 := met98 A B C
        clear bA bB bC bd be
        rw [show outl 3 A B C = .iface 99 (.agg #[.int .i64 A, .int .i64 B, .int .i64 C]) from rfl] at z0 q3 HB0
        cases hG : insB 3 A B C (x - X) (y - Y)
        · rw [hG] at cH hI
          rw [hI] at hDS
          simp only [Bool.false_eq_true, if_false, Int.add_zero] at hDS
          clear hI hG
          go_wp2_with fail
          refine (cH _).mono ?_
          rintro e w4 ⟨rfl, hb4⟩
          have HB4 : Hid (Below w.heap.size w w4) := bnext HB0.out (Nat.le_refl _) hb4
          clear hb4 HB0 z0 z1 z2 z3 q3 cH n1 n2
          go_wp2_with fail
          exact ⟨⟨k + 1, by omega, rfl, by rw [hDS], HB4.out⟩, by simp [intOf]; omega⟩
        · rw [hG] at cH hI
          rw [hI] at hDS
          simp only [if_true] at hDS
          clear hI hG
          go_wp2_with fail
          refine (cH _).mono ?_
          rintro e w4 ⟨rfl, hb4⟩
          have HB4 : Hid (Below w.heap.size w w4) := bnext HB0.out (Nat.le_refl _) hb4
          have q3' := (hb4.cell (p := ⟨wr.heap.size, 3, none⟩) (by simp)).trans q3
          clear hb4 HB0 z0 z1 z2 z3 q3 cH n1 n2
          go_wp2_with fail
          exact ⟨⟨k + 1, by omega, rfl, by rw [hDS], HB4.out⟩, by simp [intOf]; omega⟩
      · have cH := has4 A B C (x - X) (y - Y) bA bB bd be
        have n1 := nil100 A B
        have n2 := met100 A B
        clear bA bB bC bd be
        rw [show outl 4 A B C = .iface 101 (.agg #[.int .i64 A, .int .i64 B]) from rfl] at z0 q3 HB0
        cases hG : insB 4 A B C (x - X) (y - Y)
        · rw [hG] at cH hI
          rw [hI] at hDS
          simp only [Bool.false_eq_true, if_false, Int.add_zero] at hDS
          clear hI hG
          go_wp2_with fail
          refine (cH _).mono ?_
          rintro e w4 ⟨rfl, hb4⟩
          have HB4 : Hid (Below w.heap.size w w4) := bnext HB0.out (Nat.le_refl _) hb4
          clear hb4 HB0 z0 z1 z2 z3 q3 cH n1 n2
          go_wp2_with fail
          exact ⟨⟨k + 1, by omega, rfl, by rw [hDS], HB4.out⟩, by simp [intOf]; omega⟩
        · rw [hG] at cH hI
          rw [hI] at hDS
          simp only [if_true] at hDS
          clear hI hG
          go_wp2_with fail
          refine (cH _).mono ?_
          rintro e w4 ⟨rfl, hb4⟩
          have HB4 : Hid (Below w.heap.size w w4) := bnext HB0.out (Nat.le_refl _) hb4
          have q3' := (hb4.cell (p := ⟨wr.heap.size, 3, none⟩) (by simp)).trans q3
          clear hb4 HB0 z0 z1 z2 z3 q3 cH n1 n2
          go_wp2_with fail
          exact ⟨⟨k + 1, by omega, rfl, by rw [hDS], HB4.out⟩, by simp [intOf]; omega⟩
    · obtain rfl : k = n := by omega
      go_wp2
      go_ret
      exact ⟨rfl, hb⟩

end Go.Proofs.Ytadeajdjjcelhaa
