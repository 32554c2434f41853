/- The draw of an image. -/
import Derived.Test.YtekoioggamhlaaaDpg
namespace Go.Proofs.Ytekoioggamhlaaa
open Go.RowKit

/-- what is known while an image is being drawn -/
structure DI (p : Nat) (a : Option Addr) (len cap : Nat) (w : World) (R X o n : Nat) (W H : Int) (wr : World) : Prop where
  cur : Cur p a len cap wr
  kept : Kept p w wr
  res : Bx R [.int .i64 0, .int .i64 0, .slice none 0 0] wr
  box : Bx X [.int .i64 W, .int .i64 H, .slice (some ⟨o, 0, none⟩) n n] wr
  row : ∃ f, Row o n f wr
  lt : R < wr.heap.size ∧ X < wr.heap.size ∧ o < wr.heap.size
/-- the blocks are new and apart -/
structure DB (p : Nat) (a : Option Addr) (len : Nat) (w : World) (R X o : Nat) : Prop where
  hp : p < w.heap.size
  hab : len = 0 ∨ ∀ b off, a = some ⟨b, off, none⟩ → b < w.heap.size
  hr : w.heap.size ≤ R
  hx : w.heap.size ≤ X
  ho : w.heap.size ≤ o
  rx : R ≠ X
  ro : R ≠ o
  xo : X ≠ o
theorem Row.kept {b n p : Nat} {f : Nat → Int} {w w' : World} (h : Row b n f w) (hk : Kept p w w') (hb : b ≠ p) : Row b n f w' := fun j hj =>
  ⟨hk.cell hb (h j hj).1, (hk.frozen (a := ⟨b, j, none⟩) hb (h j hj).1).trans (h j hj).2⟩
theorem DI.step {p : Nat} {a : Option Addr} {len cap : Nat} {w : World} {R X o n : Nat} {W H : Int} {wr w' : World} (h : DI p a len cap w R X o n W H wr) (hd : DB p a len w R X o) (hc : Cur p a len cap w') (hk : Kept p wr w') : DI p a len cap w R X o n W H w' := by
  have h1 := hd.hp; have h2 := hd.hr; have h3 := hd.hx; have h4 := hd.ho
  obtain ⟨f, hf⟩ := h.row
  have hz := hk.size
  have hl := h.lt
  exact ⟨hc, h.kept.trans hk, h.res.kept hk (by omega), h.box.kept hk (by omega), ⟨f, hf.kept hk (by omega)⟩, by omega⟩
theorem Bx.far {b : Nat} {vs : List Value} {w : World} (h : Bx b vs w) {q : Addr} (hq : q.block ≠ b) (v : Value) : Bx b vs (w.setCell q v) := fun j u hu => by
  have := h j u hu
  refine ⟨?_, by simpa using this.2⟩
  rw [World.cell?_setCell_other _ _ _ _ (by intro e; subst e; exact hq rfl)]
  exact this.1
theorem Row.put {b n : Nat} {f : Nat → Int} {w : World} (h : Row b n f w) (k : Nat) (z : Int) : Row b n (fun q => if q = k then z else f q) (w.setCell ⟨b, k, none⟩ (.int .i64 z)) := fun j hj => by
  refine ⟨?_, by simpa using (h j hj).2⟩
  by_cases e : j = k
  · subst e
    simp only [if_true]
    exact World.cell?_setCell_same _ _ _ (h j hj).1
  · simp only [if_neg e]
    rw [World.cell?_setCell_other _ _ _ _ (by simp; try omega)]
    exact (h j hj).1
theorem DI.put {p : Nat} {a : Option Addr} {len cap : Nat} {w : World} {R X o n : Nat} {W H : Int} {wr : World} (h : DI p a len cap w R X o n W H wr) (hd : DB p a len w R X o) (k : Nat) (z : Int) : DI p a len cap w R X o n W H (wr.setCell ⟨o, k, none⟩ (.int .i64 z)) := by
  obtain ⟨f, hf⟩ := h.row
  have hb : Below w.heap.size wr (wr.setCell ⟨o, k, none⟩ (.int .i64 z)) := (Below.refl _ _).setCell hd.ho _
  exact ⟨h.cur.belowB hb hd.hp hd.hab, h.kept.belowB hb (Nat.le_refl _), h.res.far hd.ro.symm _, h.box.far hd.xo.symm _, ⟨_, hf.put k z⟩, by simpa using h.lt⟩
theorem DI.drew {p : Nat} {a : Option Addr} {len cap : Nat} {w : World} {R X o n : Nat} {W H : Int} {wr : World} (h : DI p a len cap w R X o n W H wr) : DI p a len cap w R X o n W H wr.drew :=
  ⟨h.cur.drewN 1, h.kept.drew, h.res, h.box, h.row, h.lt⟩

theorem below_set3 {B : Nat} (w : World) (b : Nat) (u v x : Value) (hb : B ≤ b) : Below B w (((w.setCell ⟨b, 0, none⟩ u).setCell ⟨b, 1, none⟩ v).setCell ⟨b, 2, none⟩ x) :=
  Below.setCell (p := ⟨b, 2, none⟩) (Below.setCell (p := ⟨b, 1, none⟩) (Below.setCell (p := ⟨b, 0, none⟩) (Below.refl B w) hb u) hb v) hb x
/-- an image is drawn: some image of these sides with so many pixels -/
def DrawnM (p : Nat) (a : Option Addr) (len cap : Nat) (W H : Int) (n : Nat) (w : World) (e : Ending) (w' : World) : Prop :=
  ∃ o f, e = .returned (im W H (some ⟨o, 0, none⟩) n n) ∧ Row o n f w' ∧ w.heap.size ≤ o ∧ Cur p a len cap w' ∧ Kept p w w'

set_option maxRecDepth 100000 in
set_option maxHeartbeats 2000000 in
theorem drawImage_any (p : Nat) (a : Option Addr) (len cap : Nat) (W H lo hi : Int) (n : Nat) (hn : W * H = (n : Int)) (hl : n ≤ 4096) (w : World) (h : Cur p a len cap w) (hp : p < w.heap.size) (hab : len = 0 ∨ ∀ b off, a = some ⟨b, off, none⟩ → b < w.heap.size) :
    Calls Try.prog 33 #[.pointer (some ⟨p, 0, none⟩), .int .i64 W, .int .i64 H, .int .i64 lo, .int .i64 hi] w (DrawnM p a len cap W H n w) := by
  have cN := l2New_any W H n hn hl
  have HR := hide (Bx.new [.int .i64 0, .int .i64 0, .slice none 0 0] 26 w)
  have HC := hide h
  have HAB := hide hab
  clear h hn hab
  go_enter Try.func33, Try.ntmps33
  go_wp2_with fail
  refine (cN _).mono ?_
  rintro e w1 ⟨rfl, hr, hb, hs⟩
  clear cN
  have hz : (w.alloc (.cells #[.int .i64 0, .int .i64 0, .slice none 0 0] 26)).heap.size = w.heap.size + 1 := by simp
  have hb1 := bnext (bnew w (.cells #[.int .i64 0, .int .i64 0, .slice none 0 0] 26)) (Nat.le_refl _) hb
  have hb2 := bnew w1 (.cells #[.int .i64 W, .int .i64 H, .slice (some ⟨(w.alloc (.cells #[.int .i64 0, .int .i64 0, .slice none 0 0] 26)).heap.size + 1, 0, none⟩) n n] 26)
  have hR : Bx w.heap.size [.int .i64 0, .int .i64 0, .slice none 0 0] w1 := HR.out.below hb (by rw [hz]; omega)
  rw [hz] at hs hr
  have hw1 := hb1.size
  have HD : Hid (DB p a len w w.heap.size w1.heap.size (w.heap.size + 1 + 1)) := ⟨hp, HAB.out, Nat.le_refl _, hw1, by omega, by omega, by omega, by omega⟩
  have HI : Hid (DI p a len cap w w.heap.size w1.heap.size (w.heap.size + 1 + 1) n W H (w1.alloc (.cells #[.int .i64 W, .int .i64 H, .slice (some ⟨w.heap.size + 1 + 1, 0, none⟩) n n] 26))) := by
    rw [hz] at hb2
    have hb3 := bnext hb1 (Nat.le_refl _) hb2
    exact ⟨HC.out.below hb3, Kept.of_below hb3, hR.below hb2 (by omega), Bx.new _ _ _, ⟨_, hr.below hb2 (by omega)⟩, by simp; omega⟩
  clear hz hb1 hb2 hR hs hr hb HR HC HAB
  obtain ⟨cC, -, -, -, -, -⟩ := HI.out
  have c4 := below_any p a len cap _ cC 4 (by omega) (by omega)
  clear cC
  go_wp2_with fail
  refine c4.mono ?_
  rintro e w2 ⟨x, rfl, x0, x1, hc, hk⟩
  have HI2 := hide (HI.out.step HD.out hc hk)
  generalize w1.heap.size = X at *
  generalize w.heap.size + 1 + 1 = o at *
  clear c4 hc hk HI
  have l0 := (HI2.out.box 2 _ rfl).1
  go_wp2_with fail
  go_loopw [13, 36, 55] (fun i _ _ wr => ∃ k : Nat, k ≤ n ∧ i = .int .i64 k ∧ DI p a len cap w w.heap.size X o n W H wr) (fun i _ _ _ => n - (intOf i).toNat)
  case atStart => exact ⟨0, by omega, rfl, HI2.out⟩
  case round =>
    obtain ⟨k, hk, rfl, hd⟩ := hrel
    have HDI := hide hd
    have l2 := (hd.box 2 _ rfl).1
    clear hd HI2 l0
    by_cases hlt : k < n
    · have cO := once_any p a len cap _ HDI.out.cur 3 (by omega) (by omega)
      have cF := fun w' h => fromG p a len cap w' h lo hi
      by_cases hx0 : x = 0
      · subst hx0
        clear cO
        have HDd := hide HDI.out.drew
        have lD := (HDd.out.box 2 _ rfl).1
        go_upto_region 8 with fail
        go_region_with (first
          | (go_at_call 46; (with_reducible refine (cF _ HDd.out.cur).mono ?_); rintro e wA ⟨z, rfl, hc, hk⟩; have HA := hide (HDd.out.step HD.out hc hk); have lA := (HA.out.box 2 _ rfl).1; obtain ⟨f, hf⟩ := HA.out.row; obtain ⟨r1, r2⟩ := hf k hlt))
        all_goals
          have HP := hide (HA.out.put HD.out k z)
          clear HA lA hf r1 r2 hc hk HDd lD cF
          go_wp2_with fail
          exact ⟨⟨k + 1, by omega, rfl, HP.out⟩, by simp [intOf]; omega⟩
      have hxb : (x == 0) = false := by simp [hx0]
      by_cases hk0 : k = 0
      · subst hk0
        clear cO
        have HDd := hide HDI.out.drew
        have lD := (HDd.out.box 2 _ rfl).1
        go_upto_region 8 with fail
        go_region_with (first
          | (go_at_call 46; (with_reducible refine (cF _ HDd.out.cur).mono ?_); rintro e wA ⟨z, rfl, hc, hk⟩; have HA := hide (HDd.out.step HD.out hc hk); have lA := (HA.out.box 2 _ rfl).1; obtain ⟨f, hf⟩ := HA.out.row; obtain ⟨r1, r2⟩ := hf 0 hlt))
        all_goals
          have HP := hide (HA.out.put HD.out 0 z)
          clear HA lA hf r1 r2 hc hk HDd lD cF
          go_wp2_with fail
          exact ⟨⟨0 + 1, by omega, rfl, HP.out⟩, by simp [intOf]; omega⟩
      have hkb : ((k : Int) == 0) = false := by simp; omega
      go_wp2_with fail
      refine cO.mono ?_
      rintro e w3 ⟨q, rfl, hc, hkk⟩
      have HDJ := hide (HDI.out.step HD.out hc hkk)
      clear cO hc hkk HDI l2
      cases q
      · have l3 := (HDJ.out.box 2 _ rfl).1
        obtain ⟨f, hf⟩ := HDJ.out.row
        obtain ⟨r1, r2⟩ := hf k hlt
        by_cases hx1 : x = 1
        · subst hx1
          have r3 := (hf (k - 1) (by omega)).1
          have hw : IntKind.i64.wrap ((k : Int) - 1) = ((k - 1 : Nat) : Int) := by rw [IntKind.wrap_i64]; omega
          have hw3 : k - 1 < n := by omega
          have HP := hide (HDJ.out.drew.put HD.out k (f (k - 1)))
          clear hf cF hx0
          generalize k - 1 = k1 at *
          go_upto_region 10 with fail
          go_region_with (fail)
          all_goals
            clear r1 r2 r3 l3 HDJ
            go_wp2_with fail
            exact ⟨⟨k + 1, by omega, rfl, HP.out⟩, by simp [intOf]; omega⟩
        · have hx1b : (x == 1) = false := by simp [hx1]
          have HP := fun z => HDJ.out.put HD.out k z
          have HPh := hide HP
          clear hf cF HP
          go_wp2_with fail
          exact ⟨⟨k + 1, by omega, rfl, HPh.out _⟩, by simp [intOf]; omega⟩
      · have l2 := (HDJ.out.box 2 _ rfl).1
        have HDd := hide HDJ.out.drew
        have lD := (HDd.out.box 2 _ rfl).1
        go_upto_region 8 with fail
        go_region_with (first
          | (go_at_call 46; (with_reducible refine (cF _ HDd.out.cur).mono ?_); rintro e wA ⟨z, rfl, hc, hk⟩; have HA := hide (HDd.out.step HD.out hc hk); have lA := (HA.out.box 2 _ rfl).1; obtain ⟨f, hf⟩ := HA.out.row; obtain ⟨r1, r2⟩ := hf k hlt))
        all_goals
          have HP := hide (HA.out.put HD.out k z)
          clear HA lA hf r1 r2 hc hk HDd lD cF
          go_wp2_with fail
          exact ⟨⟨k + 1, by omega, rfl, HP.out⟩, by simp [intOf]; omega⟩
    · obtain rfl : k = n := by omega
      have r0 := (HDI.out.res 0 _ rfl)
      have r1 := (HDI.out.res 1 _ rfl)
      have r2 := (HDI.out.res 2 _ rfl)
      have b0 := (HDI.out.box 0 _ rfl).1
      have b1 := (HDI.out.box 1 _ rfl).1
      obtain ⟨q0, p0⟩ := r0
      obtain ⟨q1, p1⟩ := r1
      obtain ⟨q2, p2⟩ := r2
      have HDr := hide HDI.out
      clear HDI
      go_wp2_with fail
      refine bodyPost_ret (v := im W H (some ⟨o, 0, none⟩) k k) (by simp [results, Try.results33, go_sem, q0, q1, q2]) rfl ?_
      obtain ⟨f, hf⟩ := HDr.out.row
      have hbe : Below w.heap.size wr (((wr.setCell ⟨w.heap.size, 0, none⟩ (.int .i64 W)).setCell ⟨w.heap.size, 1, none⟩ (.int .i64 H)).setCell ⟨w.heap.size, 2, none⟩ (.slice (some ⟨o, 0, none⟩) k k)) :=
        below_set3 wr w.heap.size _ _ _ (Nat.le_refl _)
      have hro := HD.out.ro
      exact ⟨o, f, rfl, ((hf.set hro _).set hro _).set hro _, HD.out.ho, HDr.out.cur.belowB hbe HD.out.hp HD.out.hab, HDr.out.kept.belowB hbe (Nat.le_refl _)⟩

end Go.Proofs.Ytekoioggamhlaaa
