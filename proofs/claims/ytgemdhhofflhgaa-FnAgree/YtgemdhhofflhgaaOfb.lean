/- The program's Agree. -/
import Derived.Test.YtgemdhhofflhgaaOfa
import Derived.Test.YtgemdhhofflhgaaGrk
import Derived.Deep.RegionHeld3
import Derived.Deep.AppendLies
namespace Go.Proofs.Ytgemdhhofflhgaa
open Go.RowKit

theorem PxB.take {a : Option Addr} {m : Nat} {ad : Nat → Option Addr} {ln cp : Nat → Nat} {F : Nat → Nat → Int} {Bv : Nat → Int} {w : World} (h : PxB a m ad ln cp F Bv w) {k : Nat} (hk : k ≤ m) : PxB a k ad ln cp F Bv w := by
  refine ⟨?_, fun i hi => h.2 i (by omega)⟩
  rcases h.1 with h1 | ⟨b, off, ha, hc⟩
  · exact .inl (by omega)
  · exact .inr ⟨b, off, ha, fun i hi => hc i (by omega)⟩
/-- how many answers -/
def agN (m n : Nat) : Nat := if m ≤ 64 ∧ n ≤ 64 then m else 0
set_option maxRecDepth 100000 in
theorem cutO (b off m cap p : Nat) (hp : p ≤ cap) (w : World) : (Instr.slice 24 (.slice (some ⟨b, off, none⟩) m cap) none (some (.int .i64 (p : Int))) none).run Try.prog w = .ok (.slice (some ⟨b, off, none⟩) p cap) w := by
  have hsz : (Go.sizeOf 30).run Try.prog w = .ok 2 w := by kernel_rfl
  have hb := fun code => run_sliceBound (P := Try.prog) w .i64 (p : Int) cap code (by omega) (by omega)
  simp only [Instr.slice, Instr.sliceBounds, Sem.run_bind, run_underlying Try.underlying24, Result.andThen, Sem.run_pure, hb, hsz, Int.toNat_natCast]
  have e := add1 b off 0
  rw [Nat.zero_mul, Nat.add_zero] at e
  simp only [Option.map_some, Nat.sub_zero, Nat.zero_mul, e]
  split <;> rfl

set_option maxRecDepth 100000 in
set_option maxHeartbeats 4000000 in
theorem implAgree_any (a : Option Addr) (m cap : Nat) (ad : Nat → Option Addr) (ln cp : Nat → Nat) (F : Nat → Nat → Int) (Bv : Nat → Int) (hm : m ≤ 1048576) (hmc : m ≤ cap) (hl : ∀ i, i < m → ln i ≤ 1048576) (a' : Option Addr) (n cap' : Nat) (g : Nat → Int) (hn : n ≤ 1048576) (w : World) (h : PxB a m ad ln cp F Bv w) (h' : Px a' n g w) :
    Calls Try.prog 7 #[.slice a m cap, .slice a' n cap'] w (LsR (agN m n) (agF Bv ln F g n) w) := by
  have HP := hide h
  have HK := hide h'
  have HL := hide hl
  clear h h' hl
  by_cases h1 : (64 : Int) < m
  · have HR : Hid (LsR (agN m n) (agF Bv ln F g n) w (.returned (.slice none 0 0)) w) := by
      unfold agN; rw [if_neg (by omega)]; exact ⟨none, 0, 0, rfl, .inl rfl, .inl rfl, Below.refl _ _⟩
    clear HP HK HL
    go_enter Try.func7, Try.ntmps7
    go_wp2_with fail
    go_ret
    exact HR.out
  by_cases h2 : (64 : Int) < n
  · have HR : Hid (LsR (agN m n) (agF Bv ln F g n) w (.returned (.slice none 0 0)) w) := by
      unfold agN; rw [if_neg (by omega)]; exact ⟨none, 0, 0, rfl, .inl rfl, .inl rfl, Below.refl _ _⟩
    clear HP HK HL
    go_enter Try.func7, Try.ntmps7
    go_wp2_with fail
    go_ret
    exact HR.out
  have HAN : Hid (agN m n = m) := by show _ = _; unfold agN; rw [if_pos ⟨by omega, by omega⟩]
  obtain ⟨cur, hcur, hmk⟩ := make_cap m hm w
  have HO0 : Hid ((w.alloc (.cells cur 2)).ownsRow w.heap.size 2 1 (.slice (some ⟨w.heap.size, 0, none⟩) 0 m) 0 []) := World.ownsRow_made w cur m (Nat.le_refl _) (by unfold maxLen; omega) hcur
  have HB0 : Hid (Below w.heap.size w (w.alloc (.cells cur 2))) := bnew _ _
  obtain ⟨ti, hi1, hi2, hi3, hi4⟩ := info2
  have HI1 := hide hi1
  clear hcur hi1
  go_enter Try.func7, Try.ntmps7
  go_wp2_with fail
  go_loopw [5, 21] (fun v i wr => ∃ k : Nat, k ≤ m ∧ i = .int .i64 k ∧ wr.ownsRow w.heap.size 2 1 v k (ints (fl (agF Bv ln F g n) k)) ∧ Below w.heap.size w wr) (fun _ i _ => m - (intOf i).toNat)
  case atStart => exact ⟨0, by omega, rfl, HO0.out, HB0.out⟩
  case round =>
    obtain ⟨k, hk, rfl, ho, hb⟩ := hrel
    clear HO0 HB0 hmk
    by_cases hlt : k < m
    · have hlt' : (k : Int) < m := by omega
      obtain ⟨b, off, rfl, z0, z1⟩ := (HP.out.below hb).at hlt
      have HBA : Hid (Below w.heap.size w (wr.alloc (.cells #[.int .i64 (Bv k), .slice (ad k) (ln k) (cp k)] 30))) := hb.alloc hb.size _
      have y0 : (wr.alloc (.cells #[.int .i64 (Bv k), .slice (ad k) (ln k) (cp k)] 30)).cell? ⟨wr.heap.size, 0, none⟩ = some (.int .i64 (Bv k)) := by simp [go_sem]
      have y1 : (wr.alloc (.cells #[.int .i64 (Bv k), .slice (ad k) (ln k) (cp k)] 30)).cell? ⟨wr.heap.size, 1, none⟩ = some (.slice (ad k) (ln k) (cp k)) := by simp [go_sem]
      have HOA : Hid ((wr.alloc (.cells #[.int .i64 (Bv k), .slice (ad k) (ln k) (cp k)] 30)).ownsRow w.heap.size 2 1 u5 k (ints (fl (agF Bv ln F g n) k))) := ho.alloc _
      have HFR : Hid (∀ q, Value.ownBlock u5 = some q → w.heap.size ≤ q) := fun q hq => (ho.lt q hq).1
      have HBD : Hid (Below w.heap.size w (wr.alloc (.cells #[.int .i64 (Bv k), .slice (ad k) (ln k) (cp k)] 30)).drew) := HBA.out.drew
      have hkc : k ≤ cap := by omega
      have hsl := fun w' => cutO b off m cap k hkc w'
      have cA := agreedForm_any (Bv k) (ad k) (ln k) (cp k) (F k) (HL.out k hlt) (some ⟨b, off, none⟩) k cap ad ln cp F Bv (by omega) a' n cap' g hn (wr.alloc (.cells #[.int .i64 (Bv k), .slice (ad k) (ln k) (cp k)] 30)).drew ((HP.out.2 k hlt).below HBD.out) ((HP.out.take hk).below HBD.out) (HK.out.below HBD.out)
      have HAG : Hid ((if ofB (Bv k) (ln k) (F k) = true ∧ hasN Bv (Bv k) k = false then fstF (F k) g n 0 (ln k) else -1) = agF Bv ln F g n k) := rfl
      rw [HAG.out] at cA
      have HO4 : Hid (∀ w4, Below (wr.alloc (.cells #[.int .i64 (Bv k), .slice (ad k) (ln k) (cp k)] 30)).drew.heap.size (wr.alloc (.cells #[.int .i64 (Bv k), .slice (ad k) (ln k) (cp k)] 30)).drew w4 → w4.ownsRow w.heap.size 2 1 u5 k (ints (fl (agF Bv ln F g n) k))) := fun w4 hb4 => owns_keep HOA.out (fun q hq => hb4.block q (HOA.out.lt q hq).2)
      have HB4 : Hid (∀ w4, Below (wr.alloc (.cells #[.int .i64 (Bv k), .slice (ad k) (ln k) (cp k)] 30)).drew.heap.size (wr.alloc (.cells #[.int .i64 (Bv k), .slice (ad k) (ln k) (cp k)] 30)).drew w4 → Below w.heap.size w w4) := fun w4 hb4 => bnext HBD.out (Nat.le_refl _) hb4
      have HFL : Hid (fl (agF Bv ln F g n) (k + 1) = fl (agF Bv ln F g n) k ++ [agF Bv ln F g n k]) := rfl
      have HZ4 : Hid (∀ w4, Below (wr.alloc (.cells #[.int .i64 (Bv k), .slice (ad k) (ln k) (cp k)] 30)).drew.heap.size (wr.alloc (.cells #[.int .i64 (Bv k), .slice (ad k) (ln k) (cp k)] 30)).drew w4 → w4.cell? ⟨wr.heap.size, 0, none⟩ = some (.int .i64 (Bv k)) ∧ w4.cell? ⟨wr.heap.size, 1, none⟩ = some (.slice (ad k) (ln k) (cp k)) ∧ wr.heap.size < w4.heap.size) := fun w4 hb4 => ⟨cell_kept hb4 y0, cell_kept hb4 y1, by have := hb4.size; simp at this; omega⟩
      have ne0 : some wr.heap.size ≠ Value.ownBlock u5 := fun e => absurd (ho.lt _ e.symm).2 (by omega)
      generalize agF Bv ln F g n k = V at *
      clear HAG HBA HOA HBD ho hb HP HK HL HAN
      go_wp2_with fail
      generalize hwb : wr.alloc (.cells #[.int .i64 (Bv k), .slice (ad k) (ln k) (cp k)] 30) = wb at *
      clear hwb
      go_region_held3 (fun w' => w'.cell? ⟨wr.heap.size, 0, none⟩ = some (.int .i64 (Bv k)) ∧ w'.cell? ⟨wr.heap.size, 1, none⟩ = some (.slice (ad k) (ln k) (cp k)))
        (first
          | exact ⟨y0, y1⟩
          | exact ⟨x0, x1⟩
          | go_keep
          | (go_split_ands
             refine ⟨?_, ?_⟩
             · (rw [hgrow.cell_far ⟨wr.heap.size, 0, none⟩ (by simp; omega) ne0]; assumption)
             · (rw [hgrow.cell_far ⟨wr.heap.size, 1, none⟩ (by simp; omega) ne0]; assumption)))
        (first
          | (go_at_call 14; refine cA.mono ?_; rintro e w4 ⟨rfl, hb4⟩; have HO5 := hide (HO4.out w4 hb4); have HB5 := hide (HB4.out w4 hb4); have hs4 : w.heap.size ≤ w4.heap.size := HB5.out.size; obtain ⟨x0, x1, hs5⟩ := HZ4.out w4 hb4; clear hb4)
          | (refine step_append_lies _ (by rfl) _ _ _ (by rfl) w.heap.size 2 ti _ 1 8 Try.underlying25 HI1.out hi2 hi3 hi4 rfl (by omega) u5 k (ints (fl (agF Bv ln F g n) k)) (by rfl) (HO5.out.alloc _)
              ⟨w4.heap.size, 0, none⟩ 1 1 [.int .i64 V] (by rfl) (by rfl) (World.news_of_block (cs := #[.int .i64 V]) (t := 2) (fr := (0, 0)) (heap_alloc_new w4 _)) (by simp [Value.oneCell'])
              (by omega) (by unfold maxLen; omega) (by omega) (by simp; omega) (w4.heap.size + 1) (by simp) ?_; intro gg cap1 w1 hown1 hgrow hat hlt1))
      all_goals
        have HO6 : Hid (w1.ownsRow w.heap.size 2 1 (.slice (some ⟨gg, 0, none⟩) (k + 1) cap1) (k + 1) (ints (fl (agF Bv ln F g n) (k + 1)))) := by
          show World.ownsRow _ _ _ _ _ _ _
          rw [HFL.out, ints_append]; exact hown1
        have HB6 : Hid (Below w.heap.size w w1) := (HB5.out.alloc hs4 _).trans ((Below.refl _ _).grown hgrow (by simp; omega) (fun q hq => HFR.out q hq))
        clear hown1 hgrow hat hlt1 HO5 HB5 HO4 HB4 HZ4 x0 x1 HFL HFR cA
        go_wp2_with fail
        go_roundw
        case rel => exact ⟨k + 1, by omega, by go_num, HO6.out, HB6.out⟩
        case measure => simp [intOf]; omega
    · obtain rfl : k = m := by omega
      obtain ⟨a1, cap1, b1, rfl, ow, hB⟩ := ow_fl ho
      have HR : Hid (LsR (agN k n) (agF Bv ln F g n) w (.returned (.slice a1 k cap1)) wr) := by rw [HAN.out]; exact ⟨a1, cap1, b1, rfl, ow, hB, hb⟩
      clear HP HK HL ho hb ow hB HAN
      go_wp2_with fail
      go_ret
      exact HR.out

end Go.Proofs.Ytgemdhhofflhgaa
