/- Lists of offsets that grow: pointed back, within a reach, beside. -/
import Derived.Test.YtchbaegmkaibcaaSpt
namespace Go.Proofs.Ytchbaegmkaibcaa
open Go.RowKit

set_option maxRecDepth 100000 in
theorem infoS : ∃ i, Try.prog.info? 35 = some i ∧ i.zero = some (vSpot2 0 0) ∧ i.size = 2 ∧ i.bytes = 16 := ⟨_, rfl, rfl, rfl, rfl⟩

/-- an offset is appended to a list of the call's own -/
theorem growS (w : World) {ops : Array Oper} {rest : List Oper} {o : Oper} {a : Act} {Q : Exit → Act → World → Prop} (hgd : o.guard = none) (s x : Operand)
    (ho : o.op = .call { callee := .builtin .append, args := #[s, x], argTypes := #[27, 27] }) (B : Nat) (v : Value) (n : Nat) (f : Nat → Int) (hs : a.eval s = v) (w0 : World) (hown : w.ownsRow B 35 2 v n (ints (fl f (n * 2))))
    (hb : Below B w0 w) (hB : B ≤ w.heap.size) (x0 x1 : Int) (h0 : x0 = f (n * 2)) (h1 : x1 = f (n * 2 + 1)) (hx : a.eval x = .slice (some ⟨w.heap.size, 0, none⟩) 1 1) (hn : n ≤ 1048576)
    (h : ∀ v' w', w'.ownsRow B 35 2 v' (n + 1) (ints (fl f ((n + 1) * 2))) → Below B w0 w' → w.heap.size < w'.heap.size → wpList Try.prog ops Q rest (a.put o.dst v') w') :
    wpList Try.prog ops Q (o :: rest) a (w.alloc (.cells #[.int .i64 x0, .int .i64 x1] 35)) := by
  obtain ⟨ti, hi1, hi2, hi3, hi4⟩ := infoS
  refine grow w hgd s x 27 ho B 35 ti (vSpot2 0 0) 2 16 Try.underlying27 hi1 hi2 hi3 hi4 rfl (by omega) v n (fl f (n * 2)) hs w0 hown hb hB [x0, x1] 1 1 hx rfl (by unfold maxLen; omega) (by omega) ?_
  intro v' w' g1 g2 g3
  refine h v' w' ?_ g2 g3
  have e : fl f ((n + 1) * 2) = fl f (n * 2) ++ [x0, x1] := by
    rw [show (n + 1) * 2 = n * 2 + 1 + 1 by omega]
    simp only [fl]
    rw [h0, h1]
    simp
  rw [e]
  exact g1

/-- an own list of offsets -/
theorem ow_spots {w : World} {B n : Nat} {v : Value} {f : Nat → Int} (h : w.ownsRow B 35 2 v n (ints (fl f (n * 2)))) : ∃ a cap b, v = .slice a n cap ∧ Ow a b (n * 2) f w ∧ (n * 2 = 0 ∨ B ≤ b) := by
  by_cases h0 : n = 0
  · obtain ⟨hlen, hv | ⟨b, cap, cur, hv, hg, hcur, _, hm, _, _⟩⟩ := h
    · obtain ⟨rfl, rfl⟩ := hv
      exact ⟨none, 0, B, rfl, .inl (by omega), .inl (by omega)⟩
    · exact ⟨_, _, b, hv, .inl (by omega), .inl (by omega)⟩
  · obtain ⟨a, cap, b, hv, ho, hB, _⟩ := ow_of_some h (by omega)
    refine ⟨a, cap, b, hv, ?_, .inr hB⟩
    rcases ho with ho | ⟨rfl, ho⟩
    · exact .inl ho
    · exact .inr ⟨rfl, ho.congr (fun q hq => fl_at f _ q hq)⟩

/-- a list of offsets is answered -/
def SpR (n : Nat) (f : Nat → Int) (w : World) (e : Ending) (w' : World) : Prop :=
  ∃ a cap b, e = .returned (.slice a n cap) ∧ Ow a b (n * 2) f w' ∧ (n * 2 = 0 ∨ w.heap.size ≤ b) ∧ Below w.heap.size w w'

set_option maxRecDepth 100000 in
theorem make_caps (n : Nat) (h : n ≤ 1048576) (w : World) :
    ∃ cur : Array Value, cur.size = n * 2 ∧ (Instr.makeSlice 27 (.int .i64 0) (.int .i64 n)).run Try.prog w = .ok (.slice (some ⟨w.heap.size, 0, none⟩) 0 n) (w.alloc (.cells cur 35)) := by
  have := run_make (P := Try.prog) w 27 35 _ (vSpot2 0 0) Try.underlying27 rfl rfl .i64 .i64 0 n (by omega) (by omega) (by show (16 : Int) * _ ≤ _; omega) (by omega)
  refine ⟨_, ?_, this⟩
  show (madeCells _ ((n : Int).toNat * 2)).size = _
  rw [Int.toNat_natCast]
  simp [madeCells]

set_option maxRecDepth 100000 in
set_option maxHeartbeats 1000000 in
theorem pointedBack_any (a : Option Addr) (m cap : Nat) (g : Nat → Int) (hm : m ≤ 1048576) (hg : ∀ j, j < m * 2 → -64 ≤ g j ∧ g j ≤ 64) (w : World) (h : Px a (m * 2) g w) :
    Calls Try.prog 22 #[.slice a m cap] w (SpR m (fun q => - g q) w) := by
  obtain ⟨cur, hcur, hmk⟩ := make_caps m hm w
  have HO0 : Hid ((w.alloc (.cells cur 35)).ownsRow w.heap.size 35 2 (.slice (some ⟨w.heap.size, 0, none⟩) 0 m) 0 []) := World.ownsRow_made w cur m (Nat.le_refl _) (by unfold maxLen; omega) hcur
  have HB0 : Hid (Below w.heap.size w (w.alloc (.cells cur 35))) := bnew _ _
  have HP := hide h
  have HG := hide hg
  clear hcur h hg
  go_enter Try.func22, Try.ntmps22
  go_wp2_with fail
  go_loopw [3, 11] (fun v i wr => ∃ k : Nat, k ≤ m ∧ i = .int .i64 k ∧ wr.ownsRow w.heap.size 35 2 v k (ints (fl (fun q => - g q) (k * 2))) ∧ Below w.heap.size w wr) (fun _ i _ => m - (intOf i).toNat)
  case atStart => exact ⟨0, by omega, rfl, HO0.out, HB0.out⟩
  case round =>
    obtain ⟨k, hk, rfl, ho, hb⟩ := hrel
    clear HB0 HO0 hmk
    by_cases hlt : k < m
    · obtain ⟨b, off, rfl, hbl, c0, c1⟩ := (HP.out.below hb).atSpot2 hlt
      obtain ⟨g0, g0'⟩ := HG.out (k * 2) (by omega)
      obtain ⟨g1, g1'⟩ := HG.out (k * 2 + 1) (by omega)
      obtain ⟨gx, hgx⟩ : ∃ gx, gx = g (k * 2) := ⟨_, rfl⟩
      obtain ⟨gy, hgy⟩ : ∃ gy, gy = g (k * 2 + 1) := ⟨_, rfl⟩
      have HX : Hid (-gx = - g (k * 2)) := by show _ = _; rw [hgx]
      have HY : Hid (-gy = - g (k * 2 + 1)) := by show _ = _; rw [hgy]
      rw [← hgx] at c0 g0 g0'
      rw [← hgy] at c1 g1 g1'
      obtain ⟨wa, hwa⟩ : ∃ wa, wr.alloc (.cells #[.int .i64 gx, .int .i64 gy] 35) = wa := ⟨_, rfl⟩
      have hba : Below wr.heap.size wr wa := by rw [← hwa]; exact bnew _ _
      have y0 : wa.cell? ⟨wr.heap.size, 0, none⟩ = some (.int .i64 gx) := by rw [← hwa]; simp [go_sem]
      have y1 : wa.cell? ⟨wr.heap.size, 1, none⟩ = some (.int .i64 gy) := by rw [← hwa]; simp [go_sem]
      have HO := hide (ownsRow_below' ho hba)
      have HB := hide (bnext hb (Nat.le_refl _) hba)
      have HS := hide HB.out.size
      have HL : Hid (k ≤ 1048576) := by show _ ≤ _; omega
      clear ho hb HP HG hgx hgy hba
      go_wp2_with (refine growS _ rfl _ _ rfl w.heap.size _ k (fun q => - g q) rfl w HO.out HB.out HS.out (-gx) (-gy) HX.out HY.out rfl HL.out ?_)
      intro v' w' ho' hb' hs'
      have HO' := hide ho'
      have HB' := hide hb'
      clear HO HB HS ho' hb' hs' c0 c1 y0 y1 hwa
      go_wp2_with fail
      exact ⟨⟨k + 1, by omega, rfl, HO'.out, HB'.out⟩, by simp [intOf]; omega⟩
    · obtain rfl : k = m := by omega
      obtain ⟨a', cap', b', rfl, ow, hB⟩ := ow_spots ho
      have HW := hide ow
      have HB1 := hide hB
      have HB := hide hb
      clear ho hb ow hB HP
      go_wp2_with fail
      go_ret
      exact ⟨a', cap', b', rfl, HW.out, HB1.out, HB.out⟩

end Go.Proofs.Ytchbaegmkaibcaa
