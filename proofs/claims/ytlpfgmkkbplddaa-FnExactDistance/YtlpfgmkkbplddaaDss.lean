/- Distance, the specification: by rows, then by columns. -/
import Derived.Test.YtlpfgmkkbplddaaDln
import Derived.BigRegion
namespace Go.Proofs.Ytlpfgmkkbplddaa
open Go.RowKit

/-- the second of its own lists, one number of which is written -/
theorem St.upd1 {w0 : World} {L : List BoxT} {O : List OwnT} {x : OwnT} {w : World} {b n : Nat} {s : Nat → Int} (h : St w0 L (x :: (some ⟨b, 0, none⟩, b, n, fun q => .int .i64 (s q)) :: O) w) {k : Nat} (hk : k < n) (v : Int) :
    St w0 L (x :: (some ⟨b, 0, none⟩, b, n, fun q => .int .i64 (updN s k v q)) :: O) (w.setCell ⟨b, k, none⟩ (.int .i64 v)) := by
  have h0 : n ≠ 0 := by omega
  refine St.mark (O1 := [x]) h (by rw [bk_pos h0]; exact (Kept.refl b w).setCell rfl _) ?_
  rw [bk_pos h0]
  rcases h.nthO 1 rfl with h1 | ⟨_, h1⟩
  · exact absurd h1 h0
  · exact (Row.updN h1 hk v).v
theorem St.atO1 {w0 : World} {L : List BoxT} {O : List OwnT} {x : OwnT} {w : World} {b n : Nat} {s : Nat → Int} (h : St w0 L (x :: (some ⟨b, 0, none⟩, b, n, fun q => .int .i64 (s q)) :: O) w) {k : Nat} (hk : k < n) :
    w.cell? ⟨b, k, none⟩ = some (.int .i64 (s k)) ∧ w.frozen? ⟨b, k, none⟩ = false := by
  rcases h.nthO 1 rfl with h1 | ⟨_, h1⟩
  · omega
  · exact h1 k hk
/-- its own list holds other numbers, as many as it has -/
theorem St.re {w0 : World} {L : List BoxT} {O : List OwnT} {w : World} {b n : Nat} {s s' : Nat → Int} (h : St w0 L ((some ⟨b, 0, none⟩, b, n, fun q => .int .i64 (s q)) :: O) w) (hs : ∀ q, q < n → s q = s' q) : St w0 L ((some ⟨b, 0, none⟩, b, n, fun q => .int .i64 (s' q)) :: O) w := by
  by_cases h0 : n = 0
  · refine St.mark (O1 := []) h (Kept.refl _ _) (.inl h0)
  · refine h.mark0 h0 (Kept.refl _ _) ?_
    rcases h.nthO 0 rfl with h1 | ⟨h2, h1⟩
    · exact absurd h1 h0
    · exact .inr ⟨h2, Row.congr h1 hs⟩
theorem St.drop1 {w0 : World} {L : List BoxT} {O : List OwnT} {x : OwnT} {w : World} (h : St w0 L (x :: O) w) : St w0 L O w := h.sub (List.Sublist.refl _) (List.Sublist.cons _ (List.Sublist.refl _))

/-- the columns ahead of x, and y numbers of that one -/
def hyc (F : Nat → Int) (W x y : Nat) (q : Nat) : Int := if q % W < x ∨ (q % W = x ∧ q / W < y) then F q else 0
theorem hyc_step (F : Nat → Int) {W x : Nat} (hx : x < W) (y : Nat) : updN (hyc F W x y) (y * W + x) (F (y * W + x)) = hyc F W x (y + 1) := by
  funext q
  obtain ⟨e1, e2⟩ := mul_add_parts (b := y) hx
  unfold updN hyc
  by_cases h : q = y * W + x
  · subst h
    rw [if_pos rfl, e1, e2, if_pos (.inr ⟨rfl, by omega⟩)]
  · rw [if_neg h]
    have hne : ¬ (q % W = x ∧ q / W = y) := by
      rintro ⟨h1, h2⟩
      apply h
      rw [← h1, ← h2, Nat.mul_comm]
      exact (Nat.div_add_mod q W).symm
    by_cases hc : q % W < x ∨ (q % W = x ∧ q / W < y)
    · rw [if_pos hc, if_pos (by omega)]
    · rw [if_neg hc, if_neg (by omega)]
theorem hyc_next (F : Nat → Int) {W H x q : Nat} (hq : q < W * H) (hW : 1 ≤ W) : hyc F W x H q = hyc F W (x + 1) 0 q := by
  have h1 : q / W < H := by rw [Nat.div_lt_iff_lt_mul (by omega), Nat.mul_comm]; exact hq
  unfold hyc
  generalize q / W = d at *
  generalize q % W = m at *
  by_cases hc : m < x ∨ (m = x ∧ d < H)
  · rw [if_pos hc, if_pos (by omega)]
  · rw [if_neg hc, if_neg (by omega)]
theorem hyc_end (F : Nat → Int) {W q : Nat} (hW : 1 ≤ W) : hyc F W W 0 q = F q := by
  unfold hyc
  rw [if_pos (.inl (Nat.mod_lt _ (by omega)))]
theorem rowF_at {W : Nat} {f : Nat → Int} {y x : Nat} (hx : x < W) : rowF W f (y * W + x) = lnF (fun k => f (y * W + k) - 1) W x := by
  obtain ⟨e1, e2⟩ := mul_add_parts (b := y) hx
  unfold rowF
  rw [e1, e2]
theorem colF_at {W H : Nat} {o : Nat → Int} {y x : Nat} (hx : x < W) : colF W H o (y * W + x) = lnF (fun b => o (b * W + x)) H y := by
  obtain ⟨e1, e2⟩ := mul_add_parts (b := y) hx
  unfold colF
  rw [e1, e2]
theorem rowF_bd {W H n : Nat} {f : Nat → Int} (hW : 1 ≤ W) (hW' : W ≤ 64) (hn : n = W * H) (hf : bit1 f n) (b c : Nat) (hb : b < H) (hc : c < W) : -1 ≤ rowF W f (b * W + c) ∧ rowF W f (b * W + c) ≤ 5000 := by
  rw [rowF_at hc]
  refine (lnF_ok _ W c).bd (by omega) (fun k hk => ?_)
  have h1 := sq_le (x := (c : Int) - k) (b := 64) (by omega) (by omega)
  have h2 := hf (b * W + k) (by rw [hn]; exact mul_add_lt hb hk)
  omega

set_option maxRecDepth 100000 in
set_option maxHeartbeats 8000000 in
theorem specDistance_any (W H : Int) (a : Option Addr) (n cap : Nat) (f : Nat → Int) (hl : n ≤ 1048576) (w : World) (h : Px a n f w) :
    Calls Try.prog 40 #[im W H a n cap] w (ImR (pickI (maskB W H n f) W) (pickI (maskB W H n f) H) (pickN (maskB W H n f) n) (disS W n f) w) := by
  have HS0 := hide (((St.start w).box [.int .i64 W, .int .i64 H, .slice a n cap] 26).box' [.int .i64 0, .int .i64 0, .slice none 0 0] 26 (b := w.heap.size + 1) (by simp))
  have HP := hide h
  have cM := l7Mask_any W H a n cap f hl _ (h.below HS0.out.below)
  clear h
  cases hq : maskB W H n f
  · rw [hq] at cM
    rw [pickI_f, pickI_f, pickN_f]
    clear hq
    go_enter Try.func40, Try.ntmps40
    go_wp2_with fail
    refine cM.mono ?_
    rintro e w1 ⟨rfl, hb⟩
    have HS1 := hide (HS0.out.next hb)
    obtain ⟨z0, z1, z2⟩ := HS1.out.im3 0 rfl
    obtain ⟨e0, e1, e2⟩ := HS1.out.fr3 0 rfl
    clear cM hb HS0
    go_wp2_with fail
    exact bodyPost_ret (v := im 0 0 none 0 0) (by simp [results, Try.results40, go_sem, z0, z1, z2]) rfl ((HS1.out.fill3 _ _ _).imN _)
  rw [hq] at cM
  rw [pickI_t, pickI_t, pickN_t]
  obtain ⟨hok, ⟨hW, hW'⟩, ⟨hH, hH'⟩, hn, hn1, hn4, hbit⟩ := maskB_ok hq
  clear hok hq
  obtain ⟨Wn, rfl⟩ : ∃ Wn : Nat, W = (Wn : Int) := ⟨W.toNat, by omega⟩
  obtain ⟨Hn, rfl⟩ : ∃ Hn : Nat, H = (Hn : Int) := ⟨H.toNat, by omega⟩
  have hnN : n = Wn * Hn := by
    have : ((n : Nat) : Int) = ((Wn * Hn : Nat) : Int) := by rw [hn]; simp
    omega
  have HSp := hide (fun j => spec_dis (by omega) hnN hbit j)
  have hnew := l2New_any Wn Hn n hn.symm hn4
  have HNN := hide hnN
  have HBit := hide hbit
  clear hn hbit hnN
  go_enter Try.func40, Try.ntmps40
  go_wp2_with fail
  refine cM.mono ?_
  rintro e w2 ⟨rfl, hb⟩
  have HS2 := hide (HS0.out.next hb)
  obtain ⟨i0, i1, i2⟩ := HS2.out.im3 1 rfl
  clear cM hb HS0
  go_wp2_with fail
  refine (hnew _).mono ?_
  rintro e w3 ⟨rfl, hr, hb, hs⟩
  have HS3 := hide ((HS2.out.own hb hr.v (.inr (by omega))).box [.int .i64 (Wn : Nat), .int .i64 (Hn : Nat), .slice (some ⟨w2.heap.size + 1, 0, none⟩) n n] 26)
  have h3 : w.heap.size + 1 < w3.heap.size := by
    have := ((HS2.out.next hb).ltB 0 rfl).2
    exact this
  generalize hB : w2.heap.size + 1 = B1 at *
  clear hr hb HS2 i0 i1 i2 hs hB
  go_wp2_with fail
  generalize w3.alloc (.cells #[.int .i64 (Wn : Nat), .int .i64 (Hn : Nat), .slice (some ⟨B1, 0, none⟩) n n] 26) = wX at *
  generalize w3.heap.size = C1 at *
  go_loopw [4, 5, 6, 7] (fun i _ _ _ wr => ∃ y : Nat, y ≤ Hn ∧ i = .int .i64 y ∧ St w [(C1, [.int .i64 (Wn : Nat), .int .i64 (Hn : Nat), .slice (some ⟨B1, 0, none⟩) n n]), (w.heap.size + 1, [.int .i64 0, .int .i64 0, .slice none 0 0]), (w.heap.size, [.int .i64 (Wn : Nat), .int .i64 (Hn : Nat), .slice a n cap])] [(some ⟨B1, 0, none⟩, B1, n, fun q => .int .i64 (hyb (rowF Wn f) (y * Wn) q))] wr) (fun i _ _ _ _ => Hn - (intOf i).toNat)
  case atStart => exact ⟨0, by omega, rfl, HS3.out.re (fun q _ => by unfold hyb; rw [if_neg (by omega)])⟩
  case round =>
    obtain ⟨y, hy, rfl, hS⟩ := hrel
    have HS := hide hS
    clear hS HS3
    obtain ⟨i0, i1, i2⟩ := HS.out.im3 2 rfl
    by_cases hlt : y < Hn
    · have HO0 : Hid ((wr.alloc (.cells #[] 2)).ownsRow wr.heap.size 2 1 (.slice (some ⟨wr.heap.size, 0, none⟩) 0 0) 0 (ints (fl (fun k => f (y * Wn + k) - 1) 0))) := World.ownsRow_lit wr #[] 0 (Nat.le_refl _) (by unfold maxLen; omega) rfl
      have HB0 := hide (bnew wr (.cells #[] 2))
      have hP : (y * Wn : Nat) ≤ 4096 := Nat.le_trans (Nat.mul_le_mul (n₂ := 64) (m₂ := 64) (by omega) (by omega)) (by omega)
      have eP : IntKind.i64.wrap ((y : Int) * (Wn : Int)) = ((y * Wn : Nat) : Int) := by rw [← Int.natCast_mul, IntKind.wrap_i64]; omega
      obtain ⟨P, hPe⟩ : ∃ P, y * Wn = P := ⟨_, rfl⟩
      rw [hPe] at hP eP
      have HPe := hide hPe
      clear hPe
      obtain ⟨wy, hwy⟩ : ∃ wy, wy = wr := ⟨_, rfl⟩
      have HS' := HS
      clear HS
      go_wp2_with fail
      rw [← hwy] at HS' HO0 HB0 ⊢
      clear hwy
      go_loopw [5, 6] (fun v x wz => ∃ k : Nat, k ≤ Wn ∧ x = .int .i64 k ∧ wz.ownsRow wy.heap.size 2 1 v k (ints (fl (fun k => f (y * Wn + k) - 1) k)) ∧ Below wy.heap.size wy wz) (fun _ x _ => Wn - (intOf x).toNat)
      case atStart => exact ⟨0, by omega, rfl, HO0.out, HB0.out⟩
      case round =>
        obtain ⟨x, hx, rfl, ho, hb⟩ := hrel
        clear HO0 HB0 i0 i1 i2
        have HO := hide ho
        have HB := hide hb
        clear ho hb
        have HSz := hide (HS'.out.next HB.out)
        obtain ⟨i0, i1, i2⟩ := HSz.out.im3 2 rfl
        by_cases hxl : x < Wn
        · have hxi : (x : Int) < (Wn : Int) := by omega
          have hpn : P + x < n := by rw [← HPe.out, HNN.out]; exact mul_add_lt hlt hxl
          obtain ⟨bf, off2, rfl, c2⟩ := (HP.out.below HSz.out.below).at hpn
          have hbf := HBit.out _ hpn
          obtain ⟨fv, hfv⟩ : ∃ fv, f (P + x) = fv := ⟨_, rfl⟩
          have HZ : Hid (fv - 1 = (fun k => f (y * Wn + k) - 1) x) := by show _ = f (y * Wn + x) - 1; rw [HPe.out, hfv]
          rw [hfv] at c2 hbf
          have ht : ((P : Int) + (x : Int)).toNat = P + x := by omega
          have hpi : (P : Int) + (x : Int) < (n : Int) := by omega
          have HSs := hide HB.out.size
          have HL : Hid (x ≤ 1048576) := by show _ ≤ _; omega
          have fb0 : 0 ≤ fv := by omega
          have fb1 : fv ≤ 1 := by omega
          clear hfv hbf HSz HP hnew HSp
          go_wp2_with (refine grow1 _ rfl _ _ rfl wy.heap.size _ x (fun k => f (y * Wn + k) - 1) rfl wy HO.out HB.out HSs.out (fv - 1) HZ.out rfl HL.out ?_)
          intro v' w' ho' hb' hs'
          have HO' := hide ho'
          have HB' := hide hb'
          clear HO HB HSs ho' hb' hs' c2 i0 i1 i2
          go_wp2_with fail
          exact ⟨⟨x + 1, by omega, rfl, HO'.out, HB'.out⟩, by simp [intOf]; omega⟩
        · obtain rfl : Wn = x := by omega
          obtain ⟨a4, c4, b4, rfl, ow, hB4⟩ := ow_fl HO.out
          have cL := l8Line_any a4 Wn c4 (fun k => f (y * Wn + k) - 1) (by omega) (fun k hk => by
            have := HBit.out (y * Wn + k) (by rw [HNN.out]; exact mul_add_lt hlt hk)
            omega) wr ow.px
          unfold LsR at cL
          clear ow hB4 HO HB HS'
          go_wp2_with fail
          refine cL.mono ?_
          rintro e w5 ⟨a5, c5, b5, rfl, ho5, h15, hb5⟩
          have HS5 := hide (HSz.out.own hb5 ho5.v h15)
          obtain ⟨ha5, _⟩ : a5 = some ⟨b5, 0, none⟩ ∧ True := by
            rcases ho5 with h | h
            · omega
            · exact ⟨h.1, trivial⟩
          subst ha5
          clear cL ho5 h15 hb5 HSz i0 i1 i2
          go_wp2_with fail
          go_loopw [7] (fun x wz => ∃ k : Nat, k ≤ Wn ∧ x = .int .i64 k ∧ St w [(C1, [.int .i64 (Wn : Nat), .int .i64 (Hn : Nat), .slice (some ⟨B1, 0, none⟩) n n]), (w.heap.size + 1, [.int .i64 0, .int .i64 0, .slice none 0 0]), (w.heap.size, [.int .i64 (Wn : Nat), .int .i64 (Hn : Nat), .slice a n cap])] [(some ⟨b5, 0, none⟩, b5, Wn, fun q => .int .i64 (lnF (fun k => f (y * Wn + k) - 1) Wn q)), (some ⟨B1, 0, none⟩, B1, n, fun q => .int .i64 (hyb (rowF Wn f) (y * Wn + k) q))] wz) (fun x _ => Wn - (intOf x).toNat)
          case atStart => exact ⟨0, by omega, rfl, HS5.out⟩
          case round =>
            obtain ⟨x, hx, rfl, hS⟩ := hrel
            have HT := hide hS
            clear hS HS5
            obtain ⟨i0, i1, i2⟩ := HT.out.im3 2 rfl
            by_cases hxl : x < Wn
            · have hxi : (x : Int) < (Wn : Int) := by omega
              have hpn : P + x < n := by rw [← HPe.out, HNN.out]; exact mul_add_lt hlt hxl
              obtain ⟨l0, l1, l2⟩ := HT.out.im3 0 rfl
              have r0 := (HT.out.atO hxl).1
              have HT2 := HT
              rw [HPe.out] at HT2
              obtain ⟨d0, fr⟩ := HT2.out.atO1 hpn
              have HE := hide (rowF_at (f := f) (y := y) hxl)
              rw [HPe.out] at HE r0
              obtain ⟨Z, hZ⟩ : ∃ Z, lnF (fun k => f (P + k) - 1) Wn x = Z := ⟨_, rfl⟩
              rw [hZ] at HE r0
              have ht : ((P : Int) + (x : Int)).toNat = P + x := by omega
              have hpi : (P : Int) + (x : Int) < (n : Int) := by omega
              have HU := hide (HT2.out.upd1 hpn Z).drew
              have HU2 := HU
              rw [← HE.out, updN_hyb, HE.out] at HU2
              clear HU HT HT2 hnew HSp HP HE hZ
              go_upto_region 16 with fail
              go_region
              generalize (World.setCell _ ⟨B1, P + x, none⟩ (.int .i64 Z)).drew = wq at *
              clear d0 fr r0 l0 l1 l2 i0 i1 i2
              go_wp2_with fail
              exact ⟨⟨x + 1, by omega, rfl, by rw [HPe.out]; exact HU2.out⟩, by simp [intOf]; omega⟩
            · obtain rfl : Wn = x := by omega
              have HU : Hid (St w [(C1, [.int .i64 (Wn : Nat), .int .i64 (Hn : Nat), .slice (some ⟨B1, 0, none⟩) n n]), (w.heap.size + 1, [.int .i64 0, .int .i64 0, .slice none 0 0]), (w.heap.size, [.int .i64 (Wn : Nat), .int .i64 (Hn : Nat), .slice a n cap])] [(some ⟨B1, 0, none⟩, B1, n, fun q => .int .i64 (hyb (rowF Wn f) ((y + 1) * Wn) q))] wr) := by
                have := HT.out.drop1
                rw [Nat.succ_mul]
                exact this
              clear HT
              go_wp2_with fail
              exact ⟨⟨y + 1, by omega, rfl, HU.out⟩, by simp [intOf]; omega⟩
    · obtain rfl : Hn = y := by omega
      have HS1 := hide (HS.out.re (s' := rowF Wn f) (fun q hq => by unfold hyb; rw [if_pos (by rw [Nat.mul_comm, ← HNN.out]; exact hq)]))
      clear HS
      go_wp2_with fail
      refine (hnew _).mono ?_
      rintro e w5 ⟨rfl, hr, hb, hs⟩
      have HS5 := hide ((HS1.out.own hb hr.v (.inr (by omega))).box [.int .i64 (Wn : Nat), .int .i64 (Hn : Nat), .slice (some ⟨wr.heap.size + 1, 0, none⟩) n n] 26)
      have h5 : w.heap.size + 1 < w5.heap.size := by
        have := ((HS1.out.next hb).ltB 1 rfl).2
        exact this
      have h6 : C1 < w5.heap.size := by
        have := ((HS1.out.next hb).ltB 0 rfl).2
        exact this
      generalize hB : wr.heap.size + 1 = B2 at *
      clear hnew hr hb HS1 i0 i1 i2 hs hB
      go_wp2_with fail
      generalize w5.alloc (.cells #[.int .i64 (Wn : Nat), .int .i64 (Hn : Nat), .slice (some ⟨B2, 0, none⟩) n n] 26) = wY at *
      generalize w5.heap.size = C2 at *
      go_loopw [9, 10, 11, 12] (fun i _ _ _ wr => ∃ x : Nat, x ≤ Wn ∧ i = .int .i64 x ∧ St w [(C2, [.int .i64 (Wn : Nat), .int .i64 (Hn : Nat), .slice (some ⟨B2, 0, none⟩) n n]), (C1, [.int .i64 (Wn : Nat), .int .i64 (Hn : Nat), .slice (some ⟨B1, 0, none⟩) n n]), (w.heap.size + 1, [.int .i64 0, .int .i64 0, .slice none 0 0]), (w.heap.size, [.int .i64 (Wn : Nat), .int .i64 (Hn : Nat), .slice a n cap])] [(some ⟨B2, 0, none⟩, B2, n, fun q => .int .i64 (hyc (colF Wn Hn (rowF Wn f)) Wn x 0 q)), (some ⟨B1, 0, none⟩, B1, n, fun q => .int .i64 (rowF Wn f q))] wr) (fun i _ _ _ _ => Wn - (intOf i).toNat)
      case atStart => exact ⟨0, by omega, rfl, HS5.out.re (fun q _ => by unfold hyc; generalize q / Wn = d; generalize q % Wn = m; rw [if_neg (by omega)])⟩
      case round =>
        obtain ⟨x, hx, rfl, hS⟩ := hrel
        have HS := hide hS
        clear hS HS5
        obtain ⟨i0, i1, i2⟩ := HS.out.im3 3 rfl
        by_cases hxl : x < Wn
        · have HO0 : Hid ((wr.alloc (.cells #[] 2)).ownsRow wr.heap.size 2 1 (.slice (some ⟨wr.heap.size, 0, none⟩) 0 0) 0 (ints (fl (fun b => rowF Wn f (b * Wn + x)) 0))) := World.ownsRow_lit wr #[] 0 (Nat.le_refl _) (by unfold maxLen; omega) rfl
          have HB0 := hide (bnew wr (.cells #[] 2))
          obtain ⟨wy, hwy⟩ : ∃ wy, wy = wr := ⟨_, rfl⟩
          have HS' := HS
          clear HS
          go_wp2_with fail
          rw [← hwy] at HS' HO0 HB0 ⊢
          clear hwy
          go_loopw [10, 11] (fun v i wz => ∃ k : Nat, k ≤ Hn ∧ i = .int .i64 k ∧ wz.ownsRow wy.heap.size 2 1 v k (ints (fl (fun b => rowF Wn f (b * Wn + x)) k)) ∧ Below wy.heap.size wy wz) (fun _ i _ => Hn - (intOf i).toNat)
          case atStart => exact ⟨0, by omega, rfl, HO0.out, HB0.out⟩
          case round =>
            obtain ⟨y, hy, rfl, ho, hb⟩ := hrel
            clear HO0 HB0 i0 i1 i2
            have HO := hide ho
            have HB := hide hb
            clear ho hb
            have HSz := hide (HS'.out.next HB.out)
            obtain ⟨i0, i1, i2⟩ := HSz.out.im3 3 rfl
            by_cases hyl : y < Hn
            · have hyi : (y : Int) < (Hn : Int) := by omega
              have hP : (y * Wn : Nat) ≤ 4096 := Nat.le_trans (Nat.mul_le_mul (n₂ := 64) (m₂ := 64) (by omega) (by omega)) (by omega)
              have eP : IntKind.i64.wrap ((y : Int) * (Wn : Int)) = ((y * Wn : Nat) : Int) := by rw [← Int.natCast_mul, IntKind.wrap_i64]; omega
              have hpn : y * Wn + x < n := by rw [HNN.out]; exact mul_add_lt hyl hxl
              obtain ⟨l0, l1, l2⟩ := HSz.out.im3 1 rfl
              have c2 := (HSz.out.atO1 hpn).1
              have HZ : Hid (rowF Wn f (y * Wn + x) = (fun b => rowF Wn f (b * Wn + x)) y) := rfl
              obtain ⟨P, hPe⟩ : ∃ P, y * Wn = P := ⟨_, rfl⟩
              rw [hPe] at hP eP hpn c2
              obtain ⟨fv, hfv⟩ : ∃ fv, rowF Wn f (P + x) = fv := ⟨_, rfl⟩
              have HZ2 : Hid (fv = (fun b => rowF Wn f (b * Wn + x)) y) := by rw [← hfv, ← hPe]; exact HZ
              rw [hfv] at c2
              have ht : ((P : Int) + (x : Int)).toNat = P + x := by omega
              have hpi : (P : Int) + (x : Int) < (n : Int) := by omega
              have HSs := hide HB.out.size
              have HL : Hid (y ≤ 1048576) := by show _ ≤ _; omega
              clear hfv hPe HSz HP HSp HZ
              go_wp2_with (refine grow1 _ rfl _ _ rfl wy.heap.size _ y (fun b => rowF Wn f (b * Wn + x)) rfl wy HO.out HB.out HSs.out fv HZ2.out rfl HL.out ?_)
              intro v' w' ho' hb' hs'
              have HO' := hide ho'
              have HB' := hide hb'
              clear HO HB HSs ho' hb' hs' c2 i0 i1 i2 l0 l1 l2
              go_wp2_with fail
              exact ⟨⟨y + 1, by omega, rfl, HO'.out, HB'.out⟩, by simp [intOf]; omega⟩
            · obtain rfl : Hn = y := by omega
              obtain ⟨a4, c4, b4, rfl, ow, hB4⟩ := ow_fl HO.out
              have cL := l8Line_any a4 Hn c4 (fun b => rowF Wn f (b * Wn + x)) (by omega) (fun b hb => rowF_bd (by omega) (by omega) HNN.out HBit.out b x hb hxl) wr ow.px
              unfold LsR at cL
              clear ow hB4 HO HB HS'
              go_wp2_with fail
              refine cL.mono ?_
              rintro e w5 ⟨a5, c5, b5, rfl, ho5, h15, hb5⟩
              have HS5 := hide (HSz.out.own hb5 ho5.v h15)
              obtain ⟨ha5, _⟩ : a5 = some ⟨b5, 0, none⟩ ∧ True := by
                rcases ho5 with h | h
                · omega
                · exact ⟨h.1, trivial⟩
              subst ha5
              clear cL ho5 h15 hb5 HSz i0 i1 i2
              go_wp2_with fail
              go_loopw [12] (fun i wz => ∃ k : Nat, k ≤ Hn ∧ i = .int .i64 k ∧ St w [(C2, [.int .i64 (Wn : Nat), .int .i64 (Hn : Nat), .slice (some ⟨B2, 0, none⟩) n n]), (C1, [.int .i64 (Wn : Nat), .int .i64 (Hn : Nat), .slice (some ⟨B1, 0, none⟩) n n]), (w.heap.size + 1, [.int .i64 0, .int .i64 0, .slice none 0 0]), (w.heap.size, [.int .i64 (Wn : Nat), .int .i64 (Hn : Nat), .slice a n cap])] [(some ⟨b5, 0, none⟩, b5, Hn, fun q => .int .i64 (lnF (fun b => rowF Wn f (b * Wn + x)) Hn q)), (some ⟨B2, 0, none⟩, B2, n, fun q => .int .i64 (hyc (colF Wn Hn (rowF Wn f)) Wn x k q)), (some ⟨B1, 0, none⟩, B1, n, fun q => .int .i64 (rowF Wn f q))] wz) (fun i _ => Hn - (intOf i).toNat)
              case atStart => exact ⟨0, by omega, rfl, HS5.out⟩
              case round =>
                obtain ⟨y, hy, rfl, hS⟩ := hrel
                have HT := hide hS
                clear hS HS5
                obtain ⟨i0, i1, i2⟩ := HT.out.im3 3 rfl
                by_cases hyl : y < Hn
                · have hyi : (y : Int) < (Hn : Int) := by omega
                  have hP : (y * Wn : Nat) ≤ 4096 := Nat.le_trans (Nat.mul_le_mul (n₂ := 64) (m₂ := 64) (by omega) (by omega)) (by omega)
                  have eP : IntKind.i64.wrap ((y : Int) * (Wn : Int)) = ((y * Wn : Nat) : Int) := by rw [← Int.natCast_mul, IntKind.wrap_i64]; omega
                  have hpn : y * Wn + x < n := by rw [HNN.out]; exact mul_add_lt hyl hxl
                  obtain ⟨l0, l1, l2⟩ := HT.out.im3 0 rfl
                  have r0 := (HT.out.atO hyl).1
                  obtain ⟨d0, fr⟩ := HT.out.atO1 hpn
                  have HE := hide (colF_at (H := Hn) (o := rowF Wn f) (y := y) hxl)
                  obtain ⟨Z, hZ⟩ : ∃ Z, lnF (fun b => rowF Wn f (b * Wn + x)) Hn y = Z := ⟨_, rfl⟩
                  rw [hZ] at HE r0
                  have HU2 := hide (HT.out.upd1 hpn Z).drew
                  rw [← HE.out, hyc_step _ hxl, HE.out] at HU2
                  obtain ⟨P, hPe⟩ : ∃ P, y * Wn = P := ⟨_, rfl⟩
                  rw [hPe] at hP eP hpn d0 fr HU2
                  have ht : ((P : Int) + (x : Int)).toNat = P + x := by omega
                  have hpi : (P : Int) + (x : Int) < (n : Int) := by omega
                  clear HT HSp HP HE hZ hPe
                  go_upto_region 30 with fail
                  go_region
                  generalize (World.setCell _ ⟨B2, P + x, none⟩ (.int .i64 Z)).drew = wq at *
                  clear d0 fr r0 l0 l1 l2 i0 i1 i2
                  go_wp2_with fail
                  exact ⟨⟨y + 1, by omega, rfl, HU2.out⟩, by simp [intOf]; omega⟩
                · obtain rfl : Hn = y := by omega
                  have HU := hide (HT.out.drop1.re (s' := hyc (colF Wn Hn (rowF Wn f)) Wn (x + 1) 0) (fun q hq => hyc_next _ (by rw [← HNN.out]; exact hq) (by omega)))
                  clear HT
                  go_wp2_with fail
                  exact ⟨⟨x + 1, by omega, rfl, HU.out⟩, by simp [intOf]; omega⟩
        · obtain rfl : Wn = x := by omega
          have HSe := hide (HS.out.re (s' := disS Wn n f) (fun q _ => by rw [hyc_end _ (by omega), HSp.out]))
          obtain ⟨l0, l1, l2⟩ := HSe.out.im3 0 rfl
          obtain ⟨z0, z1, z2⟩ := HSe.out.im3 2 rfl
          obtain ⟨f0, f1, f2⟩ := HSe.out.fr3 2 rfl
          clear HS HSp HP
          go_wp2_with fail
          exact bodyPost_ret (v := im Wn Hn (some ⟨B2, 0, none⟩) n n) (by simp [results, Try.results40, go_sem, z0, z1, z2]) rfl ((St.fill3' (L1 := [_, _]) HSe.out _ _ _).imR Wn Hn n)

end Go.Proofs.Ytlpfgmkkbplddaa
