/- Descend, answered by the program. -/
import Derived.Test.YtedjnemijeaeoaaHol
import Derived.Lib.SliceRun
import Derived.Lib.Walk
import Derived.WalkKit
import Derived.Test.YtedjnemijeaeoaaDco
import Derived.Deep.RegionHeld
namespace Go.Proofs.Ytedjnemijeaeoaa
open Go.RowKit

/-- a list that is there already, in a block that is not in hand yet -/
theorem St.ownX {w0 : World} {L : List BoxT} {O : List OwnT} {w : World} (h : St w0 L O w) {a : Option Addr} {b n : Nat} {f : Nat → Value} (ho : OwV a b n f w) (h1 : n = 0 ∨ (w0.heap.size ≤ b ∧ b ∉ blocks L O)) :
    St w0 L ((a, b, n, f) :: O) w := by
  have kow : ∀ x ∈ (a, b, n, f) :: O, OwV x.1 x.2.1 x.2.2.1 x.2.2.2 w := by
    intro x hx
    rcases List.mem_cons.1 hx with rfl | hx
    · exact ho
    · exact h.ow x hx
  by_cases h0 : n = 0
  · have e : blocks L ((a, b, n, f) :: O) = blocks L O := by unfold blocks; rw [List.filter_cons_of_neg (by simp [h0])]
    exact ⟨h.below, h.bx, kow, by rw [e]; exact h.lt, by rw [e]; exact h.nd⟩
  · have pm : (blocks L ((a, b, n, f) :: O)).Perm (b :: blocks L O) := by
      unfold blocks
      rw [List.filter_cons_of_pos (by simp [h0])]
      exact List.perm_middle
    obtain ⟨h2, h3⟩ := h1.resolve_left h0
    refine ⟨h.below, h.bx, kow, ?_, ?_⟩
    · intro c hc
      rcases List.mem_cons.1 (pm.mem_iff.1 hc) with rfl | hc
      · exact ⟨h2, ho.lt h0⟩
      · exact h.lt c hc
    · rw [pm.nodup_iff]
      exact List.nodup_cons.2 ⟨h3, h.nd⟩
/-- two lists are answered, both new -/
theorem St.own2 {w0 : World} {L : List BoxT} {O : List OwnT} {w w' : World} (h : St w0 L O w) (hb : Below w.heap.size w w') {a a' : Option Addr} {b n b' n' : Nat} {f f' : Nat → Value} (ho : OwV a b n f w') (h1 : n = 0 ∨ w.heap.size ≤ b)
    (ho' : OwV a' b' n' f' w') (h1' : n' = 0 ∨ w.heap.size ≤ b') (hne : n = 0 ∨ n' = 0 ∨ b ≠ b') : St w0 L ((a', b', n', f') :: (a, b, n, f) :: O) w' := by
  have k := h.own hb ho h1
  refine k.ownX ho' ?_
  by_cases h0 : n' = 0
  · exact .inl h0
  · have h2 := h1'.resolve_left h0
    refine .inr ⟨Nat.le_trans h.below.size h2, fun hm => ?_⟩
    have hO : ∀ c ∈ blocks L O, c < w.heap.size := fun c hc => (h.lt c hc).2
    by_cases hn : n = 0
    · have e : blocks L ((a, b, n, f) :: O) = blocks L O := by unfold blocks; rw [List.filter_cons_of_neg (by simp [hn])]
      rw [e] at hm
      have := hO _ hm
      omega
    · have pm : (blocks L ((a, b, n, f) :: O)).Perm (b :: blocks L O) := by
        unfold blocks
        rw [List.filter_cons_of_pos (by simp [hn])]
        exact List.perm_middle
      rcases List.mem_cons.1 (pm.mem_iff.1 hm) with e | hm
      · rcases hne with e1 | e1 | e1
        · exact hn e1
        · exact h0 e1
        · exact e1 e.symm
      · have := hO _ hm
        omega

end Go.Proofs.Ytedjnemijeaeoaa

namespace Go.Proofs.Ytedjnemijeaeoaa
open Go.RowKit Go.Lib

theorem ints_fl (f : Nat → Int) (n j : Nat) (u : Value) (h : (ints (fl f n))[j]? = some u) : j < n ∧ u = .int .i64 (f j) := by
  have hl : (ints (fl f n)).length = n := by simp [ints, fl_len]
  have hj : j < n := by
    have := (List.getElem?_eq_some_iff.1 h).1
    omega
  refine ⟨hj, ?_⟩
  have e : (ints (fl f n))[j]? = some (.int .i64 ((fl f n).getD j 0)) := by
    simp [ints, List.getD, List.getElem?_eq_getElem (show j < (fl f n).length by rw [fl_len]; exact hj)]
  rw [e, fl_at f n j hj] at h
  exact (Option.some.inj h).symm

set_option maxHeartbeats 2000000 in
set_option maxRecDepth 100000 in
theorem clone_any (b off n c : Nat) (f : Nat → Int) (hl : n ≤ 1048576) (w : World) (h : ∀ k, k < n → w.cell? ⟨b, off + k, none⟩ = some (.int .i64 (f k))) :
    Calls Try.prog 39 #[.slice (some ⟨b, off, none⟩) n c] w fun e w' => LsR n f w e w' := by
  obtain ⟨i0, hi, hz0, hz1, hz2⟩ := info2
  have q : ∀ (w : World) (a : Option Addr) (n c n' c' : Nat), (binOp .eql 30 (.slice a n c) (.slice none n' c')).run Try.prog w = .ok (.bool a.isNone) w := fun w a n c n' c' => Lib.run_eql_slice_nil w _ _ a n c n' c' Try.underlying30
  have HC := hide h
  clear h
  go_enter Try.func39, Try.ntmps39
  go_wp2_with (at_builtin; refine wpList_append_own _ rfl _ _ 30 rfl w.heap.size 2 i0 (.int .i64 0) 1 8 Try.underlying30 hi hz0 hz1 hz2 rfl (by decide) _ _ _ rfl (World.ownsRow_made w #[] 0 (Nat.le_refl _) (Nat.zero_le _) rfl) ⟨b, off, none⟩ n c (ints (fl f n)) rfl ?qc1 ?qc2 ?qc3 ?qc4 ?qc5 ?qc6 ?_)
  case qc1 => simp [ints, fl_len]
  case qc2 =>
    intro j u hj
    obtain ⟨hj', rfl⟩ := ints_fl f n j u hj
    rw [Addr.add_lit]
    exact Lib.cell?_alloc_some _ (HC.out j hj')
  case qc3 => intro u hu; simp [ints] at hu; obtain ⟨x, _, rfl⟩ := hu; rfl
  case qc4 => unfold maxLen; omega
  case qc5 => omega
  case qc6 => simp
  intro v' w1 hown hgrow hnil
  have hown' : w1.ownsRow w.heap.size 2 1 v' n (ints (fl f n)) := by simpa using hown
  have HB : Hid (Below w.heap.size w w1) := ((Below.refl _ w).alloc (Nat.le_refl _) _).grown hgrow (by simp) (by intro k hk; simp [Value.ownBlock] at hk; omega)
  obtain ⟨a, cap, t, rfl, ho, ht⟩ := ow_fl hown'
  have HO := hide ho
  have HT := hide ht
  clear hown hown' hgrow hnil ho ht
  go_wp2_with fail
  go_ret
  exact ⟨a, cap, t, rfl, HO.out, HT.out, HB.out⟩

end Go.Proofs.Ytedjnemijeaeoaa

namespace Go.Proofs.Ytedjnemijeaeoaa
open Go.RowKit Go.Shelf

/-- an image and a list are answered, both new -/
def DcA (W H : Int) (n : Nat) (s : Nat → Int) (k : Nat) (t : Nat → Int) (w : World) (e : Ending) (w' : World) : Prop :=
  ∃ a0 c0 b0 a1 c1 b1, e = .returned (.tuple #[im W H a0 n c0, .slice a1 k c1]) ∧ Ow a0 b0 n s w' ∧ (n = 0 ∨ w.heap.size ≤ b0) ∧ Ow a1 b1 k t w' ∧ (k = 0 ∨ w.heap.size ≤ b1) ∧ (n = 0 ∨ k = 0 ∨ b0 ≠ b1) ∧ Below w.heap.size w w'
theorem inB_iff6 {x lo hi : Int} : inB x lo hi = true ↔ lo ≤ x ∧ x ≤ hi := by unfold inB; simp
/-- what lies below B stays -/
theorem St.nextB {w0 : World} {L : List BoxT} {O : List OwnT} {w w' : World} (h : St w0 L O w) {B : Nat} (hB : ∀ b ∈ blocks L O, b < B) (h0 : w0.heap.size ≤ B) (hb : Below B w w') : St w0 L O w' := by
  refine ⟨h.below.trans (hb.mono h0), fun x hx => (h.bx x hx).below hb (hB _ (mem_blocks_box hx)), fun x hx => ?_, fun b hb' => ⟨(h.lt b hb').1, Nat.lt_of_lt_of_le (h.lt b hb').2 hb.size⟩, h.nd⟩
  rcases h.ow x hx with h1 | ⟨h1, h2⟩
  · exact .inl h1
  · by_cases h3 : x.2.2.1 = 0
    · exact .inl h3
    · exact .inr ⟨h1, h2.below hb (hB _ (mem_blocks_own hx h3))⟩
theorem St.permO {w0 : World} {L : List BoxT} {O O' : List OwnT} {w : World} (h : St w0 L O w) (hp : O.Perm O') : St w0 L O' w := by
  have pm : (blocks L O).Perm (blocks L O') := by
    unfold blocks
    exact List.Perm.append_left _ ((hp.filter _).map _)
  exact ⟨h.below, h.bx, fun x hx => h.ow x (hp.mem_iff.2 hx), fun b hb => h.lt b (pm.mem_iff.2 hb), pm.nodup_iff.1 h.nd⟩
/-- is there a descent -/
def dcB (W H : Int) (n : Nat) (f : Nat → Int) (m : Nat) (g : Nat → Int) (x : Int) : Bool := msB W H n f m g && inB x 0 20

set_option maxRecDepth 100000 in
set_option maxHeartbeats 4000000 in
theorem implDescend_any (W H : Int) (a : Option Addr) (n cap : Nat) (f : Nat → Int) (hl : n ≤ 1048576) (a' : Option Addr) (m cap' : Nat) (g : Nat → Int) (hl' : m ≤ 1048576) (x : Int) (w : World) (h : Px a n f w) (h' : Px a' m g w) :
    Calls Try.prog 13 #[im W H a n cap, .slice a' m cap', .int .i64 x] w (DcA (if dcB W H n f m g x = true then W else 0) (if dcB W H n f m g x = true then H else 0) (if dcB W H n f m g x = true then n else 0) (dcR W.toNat g f x.toNat) (if dcB W H n f m g x = true then x.toNat + 1 else 0) (dcT W.toNat m g f) w) := by
  have HS0 := hide (((St.start w).box [.int .i64 W, .int .i64 H, .slice a n cap] 32).box' [.int .i64 0, .int .i64 0, .slice none 0 0] 32 (b := w.heap.size + 1) (by simp))
  have c := implMisfit_any W H a n cap f hl a' m cap' g hl' _ (h.below HS0.out.below) (h'.below HS0.out.below)
  have HP := hide h
  have HP' := hide h'
  clear h h'
  unfold dcB
  cases hq : msB W H n f m g
  · have hv : msV W H n f m g = -1 := by unfold msV; rw [if_neg (by rw [hq]; simp)]
    rw [hv] at c
    clear hq hv
    go_enter Try.func13, Try.ntmps13
    obtain ⟨i0, i1, i2⟩ := HS0.out.im3 1 rfl
    obtain ⟨j0, j1, j2⟩ := HS0.out.im3 0 rfl
    obtain ⟨f0, f1, f2⟩ := HS0.out.fr3 0 rfl
    go_wp2_with fail
    refine c.mono ?_
    rintro e w1 ⟨rfl, hb⟩
    have HS1 := hide (HS0.out.next hb)
    clear c hb HS0 i0 i1 i2 j0 j1 j2 f0 f1 f2
    obtain ⟨j0, j1, j2⟩ := HS1.out.im3 0 rfl
    obtain ⟨f0, f1, f2⟩ := HS1.out.fr3 0 rfl
    have HZ0 := hide (HS1.out.fill3 (.int .i64 0) (.int .i64 0) (.slice none 0 0))
    obtain ⟨wz, hz⟩ : ∃ wz, ((w1.setCell ⟨w.heap.size + 1, 0, none⟩ (.int .i64 0)).setCell ⟨w.heap.size + 1, 1, none⟩ (.int .i64 0)).setCell ⟨w.heap.size + 1, 2, none⟩ (.slice none 0 0) = wz := ⟨_, rfl⟩
    rw [hz] at HZ0
    obtain ⟨z0, z1, z2⟩ := HZ0.out.im3 0 rfl
    have HB := hide HZ0.out.below
    clear HZ0 HS1
    go_wp2_with fail
    exact bodyPost_ret (v := .tuple #[im 0 0 none 0 0, .slice none 0 0]) (by simp [results, Try.results13, go_sem, z0, z1, z2]) rfl ⟨none, 0, 0, none, 0, 0, rfl, .inl rfl, .inl rfl, .inl rfl, .inl rfl, .inl rfl, HB.out⟩
  · obtain ⟨h1, p, hW, hpr, hls, hm0, hN, hF, hd⟩ := msB_parts hq
    obtain ⟨q', hW', hH, hn, p1, p2, _, hf⟩ := toneB_parts h1
    obtain rfl : q' = p := by omega
    subst hW hH
    obtain ⟨hm, hg⟩ := lsB_parts hls
    have hv0 := (dsq_sum (g := g) (l := Lnm.lin q' f) hl' hd m (Nat.le_refl _)).1
    have hv : msV (q' : Int) (q' : Int) n f m g = Lnm.sm (dsq g (Lnm.lin q' f)) m := by unfold msV; rw [if_pos hq, hF]
    rw [hv] at c
    obtain ⟨M, hM⟩ : ∃ M, M = Lnm.sm (dsq g (Lnm.lin q' f)) m := ⟨_, rfl⟩
    rw [← hM] at c hv0
    have hne : (M == -1) = false := by simp; omega
    have cW := within_any x 0 20
    cases hx : inB x 0 20
    · rw [hx] at cW
      clear hq hv h1 hpr hls hN hF hd hm hg hf hn hx hM hv0
      go_enter Try.func13, Try.ntmps13
      obtain ⟨i0, i1, i2⟩ := HS0.out.im3 1 rfl
      obtain ⟨j0, j1, j2⟩ := HS0.out.im3 0 rfl
      obtain ⟨f0, f1, f2⟩ := HS0.out.fr3 0 rfl
      go_wp2_with fail
      refine c.mono ?_
      rintro e w1 ⟨rfl, hb⟩
      have HS1 := hide (HS0.out.next hb)
      clear c hb HS0 i0 i1 i2 j0 j1 j2 f0 f1 f2
      obtain ⟨j0, j1, j2⟩ := HS1.out.im3 0 rfl
      obtain ⟨f0, f1, f2⟩ := HS1.out.fr3 0 rfl
      have HZ0 := hide (HS1.out.fill3 (.int .i64 0) (.int .i64 0) (.slice none 0 0))
      obtain ⟨wz, hz⟩ : ∃ wz, ((w1.setCell ⟨w.heap.size + 1, 0, none⟩ (.int .i64 0)).setCell ⟨w.heap.size + 1, 1, none⟩ (.int .i64 0)).setCell ⟨w.heap.size + 1, 2, none⟩ (.slice none 0 0) = wz := ⟨_, rfl⟩
      rw [hz] at HZ0
      obtain ⟨z0, z1, z2⟩ := HZ0.out.im3 0 rfl
      have HB := hide HZ0.out.below
      clear HZ0 HS1
      go_wp2_with fail
      refine (cW _).mono ?_
      rintro e w2 ⟨rfl, rfl⟩
      go_wp2_with fail
      exact bodyPost_ret (v := .tuple #[im 0 0 none 0 0, .slice none 0 0]) (by simp [results, Try.results13, go_sem, z0, z1, z2]) rfl ⟨none, 0, 0, none, 0, 0, rfl, .inl rfl, .inl rfl, .inl rfl, .inl rfl, .inl rfl, HB.out⟩
    · rw [hx] at cW
      have hx2 : 0 ≤ x ∧ x ≤ 20 := inB_iff6.1 hx
      simp only [Bool.and_self, if_true]
      rw [Int.toNat_natCast]
      have hn0 : 0 < n := by rw [hn]; exact Nat.mul_pos (by omega) (by omega)
      obtain ⟨ba, off, rfl, -⟩ := HP.out.lt hn0
      have cC := fun w' (h : Px (some ⟨ba, off, none⟩) n f w') => clone_any ba off n cap f hl w' (by rcases h with h0 | ⟨b, o, e, hc⟩; (omega); cases e; exact hc)
      have cL := implLines_any (q' : Int) (q' : Int) (some ⟨ba, off, none⟩) n cap f hl
      rw [hN] at cL
      rw [hF] at cL
      have cD := fun a1 a2 c1 c2 => differences_any a1 a2 m c1 c2 g (Lnm.lin q' f) hl' (fun k hk => by have := hd k hk; omega)
      unfold LsR at cL cC
      have HN := hide hn
      have HM := hide hm
      have HG := hide hg
      have HFB := hide hf
      have HMM := hide hM
      have HD := hide hd
      clear hq hv h1 hpr hls hN hF hd hm hg hf hn hx hM hv0
      go_enter Try.func13, Try.ntmps13
      obtain ⟨i0, i1, i2⟩ := HS0.out.im3 1 rfl
      go_wp2_with fail
      refine c.mono ?_
      rintro e w1 ⟨rfl, hb⟩
      have HS1 := hide (HS0.out.next hb)
      clear c hb HS0 i0 i1 i2
      obtain ⟨i0, i1, i2⟩ := HS1.out.im3 1 rfl
      go_wp2_with fail
      refine (cW _).mono ?_
      rintro e w2 ⟨rfl, rfl⟩
      clear cW
      go_upto_region 4 with fail
      have HSA := hide (HS1.out.box [.int .i64 0, .int .i64 0, .slice none 0 0] 32).drew
      have SK0 := hide (HS1.out.drew.im3 1 rfl)
      have SKA := hide (HSA.out.im3 2 rfl)
      go_cut [9] (fun sl wc => ∃ N b3 c3, sl = .pointer (some ⟨N, 0, none⟩) ∧ St w [(N, [.int .i64 q', .int .i64 q', .slice (some ⟨b3, 0, none⟩) n c3]), (w.heap.size + 1, [.int .i64 0, .int .i64 0, .slice none 0 0]), (w.heap.size, [.int .i64 q', .int .i64 q', .slice (some ⟨ba, off, none⟩) n cap])] [dcP b3 n f] wc)
      case first =>
        go_region_held (fun (w' : World) => w'.cell? ⟨w.heap.size, 0, none⟩ = some (.int .i64 q') ∧ w'.cell? ⟨w.heap.size, 1, none⟩ = some (.int .i64 q') ∧ w'.cell? ⟨w.heap.size, 2, none⟩ = some (.slice (some ⟨ba, off, none⟩) n cap))
          (first | with_reducible exact SK0.out | with_reducible exact SKA.out | with_reducible exact SK3.out | with_reducible exact SK4.out | with_reducible exact SK5.out)
          (first
          | (go_at_call 39; (with_reducible refine (cC w2.drew (HP.out.below HS1.out.drew.below)).mono ?_); rintro e w3 ⟨a3, c3, b3, rfl, ho3, h13, hb3⟩; have HS3 := hide (HS1.out.drew.own hb3 ho3.v h13); have SK3 := hide (HS3.out.im3 1 rfl); have SK4 := hide ((HS3.out.box [.int .i64 0, .int .i64 0, .slice none 0 0] 32).im3 2 rfl); have HS5 := hide (HS3.out.box [.int .i64 q', .int .i64 q', .slice a3 n c3] 32); have SK5 := hide (HS5.out.im3 2 rfl))
          | (go_at_call 39; (with_reducible refine (cC _ (HP.out.below HSA.out.below)).mono ?_); rintro e w3 ⟨a3, c3, b3, rfl, ho3, h13, hb3⟩; have HS3 := hide (HSA.out.own hb3 ho3.v h13); have SK3 := hide (HS3.out.im3 2 rfl); obtain ⟨x0, x1, x2⟩ := HS3.out.im3 0 rfl; obtain ⟨y0, y1, y2⟩ := HS3.out.fr3 0 rfl; have HS5 := hide (HS3.out.fill3 (.int .i64 q') (.int .i64 q') (.slice a3 n c3)); have SK5 := hide (HS5.out.im3 2 rfl)))
        · obtain ⟨ra, -⟩ := ho3.resolve_left (by omega)
          subst ra
          go_wp2_with fail
          go_meet
          exact ⟨_, b3, c3, rfl, HS5.out⟩
        · obtain ⟨ra, -⟩ := ho3.resolve_left (by omega)
          subst ra
          go_wp2_with fail
          go_meet
          exact ⟨_, b3, c3, rfl, HS5.out⟩
      case rest =>
      obtain ⟨N, b3, c3, rfl, hS⟩ := hcut
      obtain ⟨w4, hw4⟩ : ∃ w4, w4 = wc := ⟨_, rfl⟩
      rw [← hw4] at hS
      rw [← hw4]
      have HS4 := hide hS
      clear hw4 hS SK0 SKA HSA HS1 cC i0 i1 i2
      obtain ⟨i0, i1, i2⟩ := HS4.out.im3 2 rfl
      go_wp2_with fail
      refine (cL _ (HP.out.below HS4.out.below)).mono ?_
      rintro e w5 ⟨a5, c5, b5, rfl, ho5, h15, hb5⟩
      have HS5 := hide (HS4.out.own hb5 ho5.v h15)
      have pA := (HS5.out.nthO 0 rfl).px
      clear cL HS4 ho5 h15 hb5 i0 i1 i2
      go_wp2_with fail
      refine (cD _ _ _ _ _ (HP'.out.below HS5.out.below) pA).mono ?_
      rintro e w6 ⟨rfl, hr, hb, hs⟩
      obtain ⟨bD, hbD⟩ : ∃ bD, bD = w5.heap.size := ⟨_, rfl⟩
      rw [← hbD] at hr ⊢
      have hS6 : St w [(N, [.int .i64 q', .int .i64 q', .slice (some ⟨b3, 0, none⟩) n c3]), (w.heap.size + 1, [.int .i64 0, .int .i64 0, .slice none 0 0]), (w.heap.size, [.int .i64 q', .int .i64 q', .slice (some ⟨ba, off, none⟩) n cap])] [dcP b3 n (dcR q' g f 0), dcP bD m (rsl q' g (dcR q' g f 0))] w6 :=
        ((HS5.out.own hb hr.v (.inr (by rw [hbD]; exact Nat.le_refl _))).sub (O' := [dcP bD m (rsl q' g f), dcP b3 n f]) (List.Sublist.refl _) (List.Sublist.cons_cons _ (List.Sublist.cons _ (List.Sublist.refl _)))).permO (List.Perm.swap ..)
      have HS6 := hide hS6
      clear cD HS5 hr hb hs hbD pA hS6
      obtain ⟨R, rfl⟩ : ∃ R : Nat, x = (R : Int) := ⟨x.toNat, by omega⟩
      rw [Int.toNat_natCast]
      have HBL : Hid (∀ s t : Nat → Int, ∀ b ∈ blocks [(N, [Value.int .i64 q', .int .i64 q', .slice (some ⟨b3, 0, none⟩) n c3]), (w.heap.size + 1, [.int .i64 0, .int .i64 0, .slice none 0 0]), (w.heap.size, [.int .i64 q', .int .i64 q', .slice (some ⟨ba, off, none⟩) n cap])] [dcP b3 n s, dcP bD m t], b < w6.heap.size) := fun s t b hb => (HS6.out.lt b (by simpa [blocks, show n ≠ 0 by omega, hm0] using hb)).2
      have h3B : b3 < w6.heap.size := (HS6.out.lt b3 (mem_blocks_own (x := dcP b3 n (dcR q' g f 0)) (List.mem_cons_self ..) (show n ≠ 0 by omega))).2
      have hDB : bD < w6.heap.size := (HS6.out.lt bD (mem_blocks_own (x := dcP bD m (rsl q' g (dcR q' g f 0))) (List.mem_cons_of_mem _ (List.mem_cons_self ..)) hm0)).2
      have hw6 := HS6.out.below.size
      have HM0 : Hid (M = dcT q' m g f 0) := HMM.out
      have HO6 : Hid ((w6.alloc (.cells #[.int .i64 M] 2)).ownsRow w6.heap.size 2 1 (.slice (some ⟨w6.heap.size, 0, none⟩) 1 1) 1 (ints (fl (dcT q' m g f) (0 + 1)))) := by
        show World.ownsRow _ _ _ _ _ _ [.int .i64 (dcT q' m g f 0)]
        rw [← HM0.out]
        exact World.ownsRow_lit w6 #[.int .i64 M] 1 (Nat.le_refl _) (by unfold maxLen; omega) rfl
      have HS7 := hide (HS6.out.next (bnew w6 (.cells #[.int .i64 M] 2)))
      have HW7 : Hid (w6.heap.size ≤ (w6.alloc (.cells #[.int .i64 M] 2)).heap.size) := by show _ ≤ _; simp
      go_wp2_with fail
      clear HS6
      generalize w6.alloc (.cells #[.int .i64 M] 2) = w7 at *
      generalize w6.heap.size = BT at *
      go_loopw [11, 38] (fun v i wr => ∃ r : Nat, r ≤ R ∧ i = .int .i64 r ∧ wr.ownsRow BT 2 1 v (r + 1) (ints (fl (dcT q' m g f) (r + 1))) ∧ BT ≤ wr.heap.size ∧ St w [(N, [.int .i64 q', .int .i64 q', .slice (some ⟨b3, 0, none⟩) n c3]), (w.heap.size + 1, [.int .i64 0, .int .i64 0, .slice none 0 0]), (w.heap.size, [.int .i64 q', .int .i64 q', .slice (some ⟨ba, off, none⟩) n cap])] [dcP b3 n (dcR q' g f r), dcP bD m (rsl q' g (dcR q' g f r))] wr) (fun _ i _ => R - (intOf i).toNat)
      case atStart => exact ⟨0, Nat.zero_le _, rfl, HO6.out, HW7.out, HS7.out⟩
      case round =>
        obtain ⟨r, hr, rfl, ho, hBT, hst⟩ := hrel
        clear HO6 HS7 HW7
        by_cases hlt : r < R
        · have cO := descendOnce_any q' p1 p2 n m HN.out HM.out g (dcR q' g f r) (fun k hk => HG.out k hk) (dcR_b HFB.out r) b3 bD c3 m w wr _ _ hst
          have hRb : ∀ k, k < m → -1000000 ≤ rsl q' g (dcR q' g f (r + 1)) k ∧ rsl q' g (dcR q' g f (r + 1)) k ≤ 1000000 := fun k hk => by
            have := rsl_b (p := q') (S := g) (f := dcR q' g f (r + 1)) (show 0 < q' by omega) p2 HG.out (fun j hj => dcR_b HFB.out (r + 1) j (by rw [HN.out]; exact hj)) hk
            omega
          have hdR : dcK q' g (dcR q' g f r) n = dcR q' g f (r + 1) := by show _ = dcK q' g (dcR q' g f r) (q' * q'); rw [HN.out]
          rw [hdR] at cO
          obtain ⟨N0, N1, N2⟩ := hst.im3 0 rfl
          have HO := hide ho
          clear hdR hst ho
          go_wp2_with fail
          refine cO.mono ?_
          rintro e w8 ⟨rfl, hst, hkp⟩
          have HS8 := hide hst
          have HO8 : Hid (w8.ownsRow BT 2 1 u11 (r + 1) (ints (fl (dcT q' m g f) (r + 1)))) := owns_same HO.out (fun b hb => hkp.block b (HO.out.lt b hb).2 (fun e => by have := (HO.out.lt b hb).1; omega))
          have hB8 : BT ≤ w8.heap.size := Nat.le_trans hBT hkp.size
          clear cO hst hkp HO N0 N1 N2 hBT
          go_wp2_with fail
          refine (squares_any _ _ _ _).mono ?_
          rintro e w9 ⟨rfl, rfl⟩
          have HS9 := hide (HS8.out.box [.slice (some ⟨bD, 0, none⟩) m m] 30)
          have HO9 := hide (HO8.out.alloc (.cells #[.slice (some ⟨bD, 0, none⟩) m m] 30))
          have hB9 : BT ≤ (w8.alloc (.cells #[.slice (some ⟨bD, 0, none⟩) m m] 30)).heap.size := by simp; omega
          have hc9 := HS9.out.cell 0 rfl 0 rfl
          have pA := (HS9.out.nthO 1 rfl).px
          have cQ := total_squares (some ⟨bD, 0, none⟩) m m (rsl q' g (dcR q' g f (r + 1))) hm0 hl' hRb _ _ hc9 pA
          have HT : Hid (Lnm.sm (fun k => rsl q' g (dcR q' g f (r + 1)) k * rsl q' g (dcR q' g f (r + 1)) k) m = dcT q' m g f (r + 1)) := rfl
          rw [HT.out] at cQ
          obtain ⟨Z, hZ⟩ : ∃ Z, Z = dcT q' m g f (r + 1) := ⟨_, rfl⟩
          rw [← hZ] at cQ
          have HZ := hide hZ
          clear hZ hRb HS8 HO8 hB8 hc9 pA
          go_wp2_with fail
          refine cQ.mono ?_
          rintro e wa ⟨rfl, hba⟩
          have HSa := hide ((HS9.out.next hba).sub (List.sublist_cons_self ..) (List.Sublist.refl _))
          have HOa := hide (ownsRow_below' HO9.out hba)
          have HBa : Hid (BT ≤ wa.heap.size) := Nat.le_trans hB9 hba.size
          have HL : Hid (r + 1 ≤ 1048576) := by show _ ≤ _; omega
          clear cQ HS9 HO9 hB9 hba
          go_wp2_with (refine grow1 _ rfl _ _ rfl BT _ (r + 1) (dcT q' m g f) rfl wa HOa.out (Below.refl _ _) HBa.out Z HZ.out rfl HL.out ?_)
          intro v' wb ho' hb' hs'
          have HOb := hide ho'
          have HBb : Hid (BT ≤ wb.heap.size) := Nat.le_trans HBa.out (Nat.le_of_lt hs')
          have HSb := hide (HSa.out.nextB (HBL.out _ _) hw6 hb')
          clear HOa HBa HSa ho' hb' hs'
          go_wp2_with fail
          exact ⟨⟨r + 1, by omega, rfl, HOb.out, HBb.out, HSb.out⟩, by simp [intOf]; omega⟩
        · obtain rfl : r = R := by omega
          obtain ⟨a1, c1, b1, rfl, ow1, hb1⟩ := ow_fl ho
          have HST := hide hst
          have HW1 := hide ow1
          clear hst ow1 ho hlt
          obtain ⟨N0, N1, N2⟩ := HST.out.im3 0 rfl
          obtain ⟨o0, o1, o2⟩ := HST.out.im3 1 rfl
          obtain ⟨f0, f1, f2⟩ := HST.out.fr3 1 rfl
          have HZ0 := hide (St.fill3' (L1 := [_]) HST.out (.int .i64 q') (.int .i64 q') (.slice (some ⟨b3, 0, none⟩) n c3))
          have hkz : Kept (w.heap.size + 1) wr (((wr.setCell ⟨w.heap.size + 1, 0, none⟩ (.int .i64 q')).setCell ⟨w.heap.size + 1, 1, none⟩ (.int .i64 q')).setCell ⟨w.heap.size + 1, 2, none⟩ (.slice (some ⟨b3, 0, none⟩) n c3)) := (((Kept.refl (w.heap.size + 1) wr).setCell (a := ⟨w.heap.size + 1, 0, none⟩) rfl (.int .i64 q')).setCell (a := ⟨w.heap.size + 1, 1, none⟩) rfl (.int .i64 q')).setCell (a := ⟨w.heap.size + 1, 2, none⟩) rfl (.slice (some ⟨b3, 0, none⟩) n c3)
          obtain ⟨wz, hz⟩ : ∃ wz, ((wr.setCell ⟨w.heap.size + 1, 0, none⟩ (.int .i64 q')).setCell ⟨w.heap.size + 1, 1, none⟩ (.int .i64 q')).setCell ⟨w.heap.size + 1, 2, none⟩ (.slice (some ⟨b3, 0, none⟩) n c3) = wz := ⟨_, rfl⟩
          rw [hz] at HZ0 hkz
          obtain ⟨z0, z1, z2⟩ := HZ0.out.im3 1 rfl
          have hne1 : b1 ≠ w.heap.size + 1 := by
            have := HBL.out (fun _ => 0) (fun _ => 0) (w.heap.size + 1) (by simp [blocks])
            omega
          have HW2 : Hid (Ow a1 b1 (r + 1) (dcT q' m g f) wz) := HW1.out.kept hkz hne1
          have HB1 : Hid (w.heap.size ≤ b1) := by show _ ≤ _; omega
          have HNE : Hid (b3 ≠ b1) := by show _ ≠ _; omega
          clear HST HW1 hkz hne1 HBL
          go_wp2_with fail
          exact bodyPost_ret (v := .tuple #[im q' q' (some ⟨b3, 0, none⟩) n c3, .slice a1 (r + 1 : Nat) c1]) (by simp [results, Try.results13, go_sem, z0, z1, z2]) rfl ⟨_, _, b3, _, _, b1, rfl, (HZ0.out.nthO 0 rfl).i, .inr (HZ0.out.lt b3 (mem_blocks_own (x := dcP b3 n (dcR q' g f r)) (List.mem_cons_self ..) (show n ≠ 0 by omega))).1, HW2.out, .inr HB1.out, .inr (.inr HNE.out), HZ0.out.below⟩

end Go.Proofs.Ytedjnemijeaeoaa
