/- The draw of patients, a query and a least number. -/
import Derived.Test.YtlailkoikcjecaaDpt
import Derived.Test.YtlailkoikcjecaaQry
namespace Go.Proofs.Ytlailkoikcjecaa
open Go.RowKit

theorem bytes_lt' {a : Option Addr} {len : Nat} {w : World} (h : Bytes a len w) {B : Nat} (hB : w.heap.size ≤ B) : len = 0 ∨ ∀ b off, a = some ⟨b, off, none⟩ → b < B := by
  by_cases h0 : len = 0
  · exact .inl h0
  · obtain ⟨_, h | ⟨b, off, ha, h⟩⟩ := h
    · exact .inl h
    · refine .inr fun b' off' e => ?_
      rw [ha] at e
      cases e
      obtain ⟨z, _, _, hz⟩ := h 0 (by omega)
      have : b < w.heap.size := World.block_lt_of_cell? w ⟨b, off + 0, none⟩ hz
      omega
theorem owns_far {w w' : World} {B m n : Nat} {e : TypeId} {v : Value} {xs : List Value} (h : w.ownsRow B e m v n xs) (hk : ∀ b, v.ownBlock = some b → w'.heap[b]? = w.heap[b]?) : w'.ownsRow B e m v n xs := by
  refine ⟨h.1, ?_⟩
  rcases h.2 with hn | ⟨g, cap, cur, hv, hB, hg, rest⟩
  · exact .inl hn
  · exact .inr ⟨g, cap, cur, hv, hB, (hk g (by rw [hv]; rfl)).trans hg, rest⟩
theorem own_px {B m : Nat} {e : TypeId} {v : Value} {L : List Int} {wr : World} (h0 : wr.ownsRow B e 4 v m (ints L)) : ∃ ad cp, v = .slice ad m cp ∧ (ad = none → m = 0 ∧ cp = 0) ∧ Px ad (m * 4) (fun k => L.getD k 0) wr := by
  have hl : L.length = m * 4 := by have := h0.1; rw [ints_length] at this; omega
  have h := h0
  obtain ⟨hlen, hv | ⟨b, cp, cur, hv, hg, hcur, _, hm2, _, _⟩⟩ := h
  · exact ⟨none, 0, by rw [hv.1, hv.2], fun _ => ⟨hv.2, rfl⟩, .inl (by rw [hv.2])⟩
  · subst hv
    refine ⟨_, cp, rfl, (fun h => by cases h), .inr ⟨b, 0, rfl, fun k hk => ?_⟩⟩
    rw [Nat.zero_add, h0.cellAt k hk, ints_at _ _ (by omega)]

set_option maxRecDepth 100000 in
set_option maxHeartbeats 1000000 in
theorem drawQuery_any (p : Nat) (a : Option Addr) (len cap : Nat) (w : World) (h : Cur p a len cap w) (hp : p < w.heap.size) (hab : len = 0 ∨ ∀ b off, a = some ⟨b, off, none⟩ → b < w.heap.size) :
    Calls Try.prog 12 #[.pointer (some ⟨p, 0, none⟩)] w fun e w' => ∃ x1 x2, e = .returned (vQuery x1 x2) ∧ Cur p a len cap w' ∧ Kept p w w' := by
  have hb0 := bnew w (cQuery 0 0 26)
  have HX0 : Hid (Bx w.heap.size [.int .i64 0, .int .i64 0] (w.alloc (cQuery 0 0 26))) := Bx.new [.int .i64 0, .int .i64 0] 26 w
  have HK0 := hide (Kept.of_below (p := p) hb0)
  have c1 := below_any p a len cap _ (h.below hb0) 256 (by omega) (by omega)
  have hne : w.heap.size ≠ p := by omega
  clear h hb0
  go_enter Try.func12, Try.ntmps12
  go_wp2_with fail
  refine c1.mono ?_
  rintro e w1 ⟨x1, rfl, -, -, hc, hk⟩
  have HX1 := hide (HX0.out.kept hk hne)
  have HK1 := hide (HK0.out.trans hk)
  have c2 := below_any p a len cap _ hc 256 (by omega) (by omega)
  clear c1 hc hk HX0 HK0
  go_wp2_with fail
  refine c2.mono ?_
  rintro e w3 ⟨x2, rfl, -, -, hc, hk⟩
  have HX3 := hide (HX1.out.kept hk hne)
  have HK3 := hide (HK1.out.trans hk)
  have HC3 := hide hc
  clear c2 hc hk HX1 HK1
  obtain ⟨z0, f0⟩ := HX3.out 0 _ rfl
  obtain ⟨z1, f1⟩ := HX3.out 1 _ rfl
  have HE : Hid (∀ v0 v1, Cur p a len cap ((w3.setCell ⟨w.heap.size, 0, none⟩ v0).setCell ⟨w.heap.size, 1, none⟩ v1) ∧ Kept p w ((w3.setCell ⟨w.heap.size, 0, none⟩ v0).setCell ⟨w.heap.size, 1, none⟩ v1)) := fun v0 v1 =>
    ⟨(HC3.out.setFar (q := ⟨w.heap.size, 0, none⟩) (Nat.le_refl _) hp hab v0).setFar (q := ⟨w.heap.size, 1, none⟩) (Nat.le_refl _) hp hab v1,
      (HK3.out.setNew' (a := ⟨w.heap.size, 0, none⟩) (Nat.le_refl _) v0).setNew' (a := ⟨w.heap.size, 1, none⟩) (Nat.le_refl _) v1⟩
  clear HC3 HK3
  go_wp2_with fail
  exact bodyPost_ret (v := vQuery x1 x2) (by simp [results, Try.results12, go_sem, z0, z1]) rfl ⟨x1, x2, rfl, HE.out _ _⟩

/-- patients and a query are drawn -/
structure DC (p : Nat) (a : Option Addr) (len cap : Nat) (w : World) (v : Value) (m : Nat) (L : List Int) (O X : Nat) (x y : Int) (wr : World) : Prop where
  pl : PL p a len cap w v m L wr
  q : Bx X [.int .i64 x, .int .i64 y] wr
  r : Bx O [.int .i64 0, .int .i64 0] wr
  far : ∀ b, v.ownBlock = some b → b ≠ X
theorem DC.next {p : Nat} {a : Option Addr} {len cap : Nat} {w : World} {v : Value} {m : Nat} {L : List Int} {O X : Nat} {x y : Int} {wr w' : World} (h : DC p a len cap w v m L O X x y wr) (hp : p < w.heap.size) (hO : O ≠ p) (hX : X ≠ p) (hc : Cur p a len cap w') (hk : Kept p wr w') : DC p a len cap w v m L O X x y w' :=
  ⟨h.pl.next hp hc hk, h.q.kept hk hX, h.r.kept hk hO, h.far⟩
theorem DC.set {p : Nat} {a : Option Addr} {len cap : Nat} {w : World} {v : Value} {m : Nat} {L : List Int} {O X : Nat} {x y : Int} {wr : World} (h : DC p a len cap w v m L O X x y wr) (hp : p < w.heap.size) (hab : len = 0 ∨ ∀ b off, a = some ⟨b, off, none⟩ → b < w.heap.size) (hO : O ≠ X) (hX : w.heap.size ≤ X) (z : Int) : DC p a len cap w v m L O X z y (wr.setCell ⟨X, 0, none⟩ (.int .i64 z)) :=
  ⟨⟨owns_far h.pl.own fun b hb => Below.heap_setCell wr ⟨X, 0, none⟩ _ b (h.far b hb), h.pl.cur.setFar (q := ⟨X, 0, none⟩) hX hp hab _, h.pl.kept.setNew' (a := ⟨X, 0, none⟩) hX _⟩,
    h.q.set 0 (.int .i64 z), h.r.kept ((Kept.refl X wr).setCell rfl _) hO, h.far⟩

/-- what is drawn for a count -/
def DCR (w : World) (e : Ending) (w' : World) : Prop :=
  ∃ ad m cp f x y l, e = .returned (.tuple #[.slice ad m cp, vQuery x y, .int .i64 l]) ∧ m ≤ 201 ∧ (ad = none → m = 0 ∧ cp = 0) ∧ Px ad (m * 4) f w' ∧ Below w.heap.size w w'

set_option maxRecDepth 100000 in
set_option maxHeartbeats 4000000 in
theorem drawCount_any (a : Option Addr) (len cap : Nat) (w : World) (h : Bytes a len w) :
    Calls Try.prog 6 #[.slice a len cap] w (DCR w) := by
  have hb := bnew w (cQuery 0 0 26)
  have HX : Hid (Bx w.heap.size [.int .i64 0, .int .i64 0] (w.alloc (cQuery 0 0 26))) := Bx.new [.int .i64 0, .int .i64 0] 26 w
  have HB := hide hb
  have HBY := hide (h.below hb)
  have hz : (w.alloc (cQuery 0 0 26)).heap.size = w.heap.size + 1 := by simp
  clear h hb
  have hn := new_any a len cap _ HBY.out
  go_enter Try.func6, Try.ntmps6
  go_upto_region 1 with fail
  generalize hw1 : w.alloc (cQuery 0 0 26) = w1 at *
  clear hw1
  go_wp2_with fail
  refine hn.mono ?_
  rintro e w2 ⟨x, rfl, rfl⟩
  have hc := cur_new a len cap w1 HBY.out x
  have hz2 : (w1.alloc (.cells #[.slice a len cap, .int .i64 0, .int .i64 x] 46)).heap.size = w1.heap.size + 1 := by simp
  have HAB := hide (bytes_lt' HBY.out (B := w1.heap.size + 1) (by omega))
  have hb2 := bnew w1 (.cells #[.slice a len cap, .int .i64 0, .int .i64 x] 46)
  have HB2 := hide (bnext HB.out (Nat.le_refl _) hb2)
  have HX2 := hide (HX.out.below hb2 (by omega))
  clear hn HX HBY HB hb2
  go_upto_region 2 with fail
  generalize hw2 : w1.alloc (.cells #[.slice a len cap, .int .i64 0, .int .i64 x] 46) = w2 at *
  clear hw2
  rw [hz] at *
  clear hz
  have hp : w.heap.size + 1 < w2.heap.size := by omega
  rw [← hz2] at HAB
  have cP := drawPatients_any (w.heap.size + 1) a len cap w2 hc hp HAB.out
  clear hc
  go_wp2_with fail
  refine cP.mono ?_
  rintro e w3 ⟨v, m, L, rfl, hm, hP⟩
  have HP3 := hide hP
  have HX3 := hide (HX2.out.kept hP.kept (by omega))
  clear cP hP HX2
  have cQ := drawQuery_any (w.heap.size + 1) a len cap w3 HP3.out.cur (Nat.lt_of_lt_of_le hp HP3.out.kept.size) (HAB.out.imp id fun h b off e => Nat.lt_of_lt_of_le (h b off e) HP3.out.kept.size)
  go_wp2_with fail
  refine cQ.mono ?_
  rintro e w4 ⟨x, y, rfl, hc, hk⟩
  have HP4 := hide (HP3.out.next hp hc hk)
  have HX4 := hide (HX3.out.kept hk (by omega))
  have hb5 := bnew w4 (cQuery x y 26)
  have hs4 := HP4.out.kept.size
  have HD5 : Hid (DC (w.heap.size + 1) a len cap w2 v m L w.heap.size w4.heap.size x y (w4.alloc (cQuery x y 26))) :=
    ⟨HP4.out.next hp (HP4.out.cur.below hb5) (Kept.of_below hb5), Bx.new [.int .i64 x, .int .i64 y] 26 w4, HX4.out.below hb5 (by omega), fun b hb => by have := (HP4.out.own.lt b hb).2; omega⟩
  clear cQ hc hk HP3 HX3 HP4 HX4 hb5
  go_upto_region 4 with fail
  generalize hw5 : w4.alloc (cQuery x y 26) = w5 at *
  clear hw5
  generalize w4.heap.size = X at *
  have c4 := below_any (w.heap.size + 1) a len cap _ HD5.out.pl.cur 4 (by omega) (by omega)
  go_wp2_with fail
  refine c4.mono ?_
  rintro e w6 ⟨l, rfl, l0, l1, hc, hk⟩
  have HD6 := hide (HD5.out.next hp (by omega) (by omega) hc hk)
  clear c4 hc hk HD5
  have c5 := once_any (w.heap.size + 1) a len cap _ HD6.out.pl.cur 20 (by omega) (by omega)
  go_wp2_with fail
  refine c5.mono ?_
  rintro e w7 ⟨q, rfl, hc, hk⟩
  have HD7 := hide (HD6.out.next hp (by omega) (by omega) hc hk)
  clear c5 hc hk HD6
  go_upto_if 19 with fail
  go_cut [] (fun wc => ∃ x', DC (w.heap.size + 1) a len cap w2 v m L w.heap.size X x' y wc)
  case first =>
    cases q
    · go_wp2_with fail
      go_meet
      exact ⟨_, HD7.out⟩
    · have hb8 := bnew w7 (.cells #[.int .i64 (-1), .int .i64 255, .int .i64 256] 2)
      have HD8 := hide (HD7.out.next hp (by omega) (by omega) (HD7.out.pl.cur.below hb8) (Kept.of_below hb8))
      have HW7 : Hid (w2.heap.size ≤ w7.heap.size) := HD7.out.pl.kept.size
      have c := below_any (w.heap.size + 1) a len cap _ HD8.out.pl.cur 3 (by omega) (by omega)
      clear hb8 HD7
      go_wp2_with fail
      refine c.mono ?_
      rintro e w9 ⟨y9, rfl, g0, g1, hc, hk⟩
      obtain ⟨Z, rfl⟩ : ∃ Z : Nat, y9 = Z := ⟨y9.toNat, by omega⟩
      have hZ : Z < 3 := by omega
      obtain ⟨z, hz⟩ := lit3 (w := w7) (x0 := -1) (x1 := 255) (x2 := 256) Z hZ
      have hz5 := hk.cell (a := ⟨w7.heap.size, Z, none⟩) (by have := HW7.out; show w7.heap.size ≠ _; omega) hz
      have HD9 := hide (HD8.out.next hp (by omega) (by omega) hc hk)
      have HD10 := hide (HD9.out.set hp HAB.out (by omega) hs4 z)
      obtain ⟨i0, f0⟩ := HD9.out.q 0 _ rfl
      clear c hc hk hz HD8 HD9 g0 g1 HW7
      generalize w7.heap.size = X7 at *
      go_wp2_with fail
      go_meet
      exact ⟨_, HD10.out⟩
  case rest =>
    obtain ⟨x', hD⟩ := hcut
    have HD7 := hide hD
    clear hD
    have c5 := once_any (w.heap.size + 1) a len cap _ HD7.out.pl.cur 20 (by omega) (by omega)
    go_wp2_with fail
    refine c5.mono ?_
    rintro e w8 ⟨q2, rfl, hc, hk⟩
    have HD8 := hide (HD7.out.next hp (by omega) (by omega) hc hk)
    clear c5 hc hk HD7
    go_upto_if 27 with fail
    go_cut [8] (fun s wc => ∃ l', s = .int .i64 l' ∧ DC (w.heap.size + 1) a len cap w2 v m L w.heap.size X x' y wc)
    case first =>
      cases q2
      · go_wp2_with fail
        go_meet
        exact ⟨_, rfl, HD8.out⟩
      · have hb8 := bnew w8 (.cells #[.int .i64 0, .int .i64 (-1), .int .i64 200, .int .i64 201] 2)
        have HD9 := hide (HD8.out.next hp (by omega) (by omega) (HD8.out.pl.cur.below hb8) (Kept.of_below hb8))
        have HW7 : Hid (w2.heap.size ≤ w8.heap.size) := HD8.out.pl.kept.size
        have c := below_any (w.heap.size + 1) a len cap _ HD9.out.pl.cur 4 (by omega) (by omega)
        clear hb8 HD8
        go_wp2_with fail
        refine c.mono ?_
        rintro e w9 ⟨y9, rfl, g0, g1, hc, hk⟩
        obtain ⟨Z, rfl⟩ : ∃ Z : Nat, y9 = Z := ⟨y9.toNat, by omega⟩
        have hZ : Z < 4 := by omega
        obtain ⟨z, hz⟩ := lit4 (w := w8) (x0 := 0) (x1 := -1) (x2 := 200) (x3 := 201) Z hZ
        have hz5 := hk.cell (a := ⟨w8.heap.size, Z, none⟩) (by have := HW7.out; show w8.heap.size ≠ _; omega) hz
        have HD10 := hide (HD9.out.next hp (by omega) (by omega) hc hk)
        clear c hc hk hz HD9 g0 g1 HW7
        generalize w8.heap.size = X7 at *
        go_wp2_with fail
        go_meet
        exact ⟨_, rfl, HD10.out⟩
    case rest =>
      obtain ⟨l', rfl, hD⟩ := hcut
      have HD := hide hD
      obtain ⟨i0, f0⟩ := hD.q 0 _ rfl
      obtain ⟨i1, f1⟩ := hD.q 1 _ rfl
      obtain ⟨o0, g0⟩ := hD.r 0 _ rfl
      obtain ⟨o1, g1⟩ := hD.r 1 _ rfl
      obtain ⟨ad, cp, rfl, hnil, -⟩ := own_px hD.pl.own
      have HF : Hid (∀ v0 v1, DCR w (.returned (.tuple #[.slice ad m cp, vQuery x' y, .int .i64 l'])) ((wc.drew.setCell ⟨w.heap.size, 0, none⟩ v0).setCell ⟨w.heap.size, 1, none⟩ v1)) := fun v0 v1 => by
        have own' : ((wc.drew.setCell ⟨w.heap.size, 0, none⟩ v0).setCell ⟨w.heap.size, 1, none⟩ v1).ownsRow w2.heap.size 31 4 (.slice ad m cp) m (ints L) := owns_far hD.pl.own fun b hb => by
          have hge := (hD.pl.own.lt b hb).1
          rw [Below.heap_setCell _ ⟨w.heap.size, 1, none⟩ v1 b (by show b ≠ w.heap.size; omega), Below.heap_setCell _ ⟨w.heap.size, 0, none⟩ v0 b (by show b ≠ w.heap.size; omega)]
          rfl
        obtain ⟨ad', cp', he, -, hpx⟩ := own_px own'
        cases he
        refine ⟨ad, m, cp, _, x', y, l', rfl, hm, hnil, hpx, ?_⟩
        have hb := HB2.out.trans (hD.pl.kept.drew.below (B := w.heap.size) (by omega) (by omega))
        exact (hb.setCell (Nat.le_refl _) v0).setCell (Nat.le_refl _) v1
      clear hD HD
      go_wp2_with fail
      go_region
      all_goals
        go_wp2_with fail
        exact bodyPost_ret (v := .tuple #[.slice ad m cp, vQuery x' y, .int .i64 l']) (by simp [results, Try.results6, go_sem, o0, o1]) rfl (HF.out _ _)

end Go.Proofs.Ytlailkoikcjecaa
