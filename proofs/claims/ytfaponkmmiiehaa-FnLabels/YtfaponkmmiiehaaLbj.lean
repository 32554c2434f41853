/- Label, the specification. -/
import Derived.Test.YtfaponkmmiiehaaLbi
import Derived.Test.YtfaponkmmiiehaaQup
import Derived.Deep.CutBlock
namespace Go.Proofs.Ytfaponkmmiiehaa
open Go.RowKit

theorem St.upto {w0 : World} {L : List BoxT} {O : List OwnT} {w w' : World} {B : Nat} (h : St w0 L O w) (hb : Below B w w') (hB : w0.heap.size ≤ B) (hL : ∀ b ∈ blocks L O, b < B) : St w0 L O w' :=
  ⟨h.below.trans (hb.mono hB), fun x hx => (h.bx x hx).below hb (hL _ (mem_blocks_box hx)), fun x hx => by
    rcases h.ow x hx with h0 | ⟨h1, h2⟩
    · exact .inl h0
    · by_cases h0 : x.2.2.1 = 0
      · exact .inl h0
      · exact .inr ⟨h1, h2.below hb (hL _ (mem_blocks_own hx h0))⟩, fun b hb' => ⟨(h.lt b hb').1, Nat.lt_of_lt_of_le (h.lt b hb').2 hb.size⟩, h.nd⟩
theorem St.rowO {w0 : World} {L : List BoxT} {O : List OwnT} {w : World} {b n : Nat} {s : Nat → Int} (h : St w0 L ((some ⟨b, 0, none⟩, b, n, fun q => .int .i64 (s q)) :: O) w) (hn : 0 < n) : Row b n s w := by
  rcases h.nthO 0 rfl with h0 | ⟨-, h0⟩
  · omega
  · exact h0
theorem blocks_fn {L : List BoxT} {a : Option Addr} {b n x : Nat} {s s' : Nat → Value} (h : x ∈ blocks L [(a, b, n, s)]) : x ∈ blocks L [(a, b, n, s')] := by
  unfold blocks at h ⊢
  by_cases h0 : n = 0
  · simp [h0] at h ⊢; exact h
  · simp [h0] at h ⊢; exact h
theorem take_snoc {α : Type} {L : List α} {k : Nat} {x : α} (h : L[k]? = some x) : L.take (k + 1) = L.take k ++ [x] := by rw [List.take_add_one, h]; rfl

set_option maxRecDepth 100000 in
set_option maxHeartbeats 8000000 in
theorem specLabel_any (W H : Int) (a : Option Addr) (n cap : Nat) (f : Nat → Int) (hl : n ≤ 1048576) (w : World) (h : Px a n f w) :
    Calls Try.prog 11 #[im W H a n cap] w (ImR (pickI (maskB W H n f) W) (pickI (maskB W H n f) H) (pickN (maskB W H n f) n) (labV W H n f) w) := by
  have HS0 := hide (((St.start w).box [.int .i64 W, .int .i64 H, .slice a n cap] 26).box' [.int .i64 0, .int .i64 0, .slice none 0 0] 26 (b := w.heap.size + 1) (by simp))
  have HP := hide h
  have cM := l7Mask_any W H a n cap f hl _ (h.below HS0.out.below)
  clear h
  cases hq : maskB W H n f
  · rw [hq] at cM
    rw [pickI_f, pickI_f, pickN_f]
    clear hq
    go_enter Try.func11, Try.ntmps11
    go_wp2_with fail
    refine cM.mono ?_
    rintro e w1 ⟨rfl, hb⟩
    have HS1 := hide (HS0.out.next hb)
    obtain ⟨z0, z1, z2⟩ := HS1.out.im3 0 rfl
    obtain ⟨e0, e1, e2⟩ := HS1.out.fr3 0 rfl
    clear cM hb HS0
    go_wp2_with fail
    exact bodyPost_ret (v := im 0 0 none 0 0) (by simp [results, Try.results11, go_sem, z0, z1, z2]) rfl ((HS1.out.fill3 _ _ _).imN _)
  rw [hq] at cM
  rw [pickI_t, pickI_t, pickN_t]
  obtain ⟨hok, hWW, hHH, hn, hn1, hn4, hbit⟩ := maskB_okL hq
  have hnew := l2New_any W H n hn.symm hn4
  have ewh : IntKind.i64.wrap (W * H) = (n : Int) := by rw [← hn, IntKind.wrap_i64]; omega
  obtain ⟨b0, o0, rfl, -⟩ := HP.out.at (k := 0) (by omega)
  have HN := hide (And.intro hn (And.intro hWW hHH))
  have HBit := hide hbit
  have HBd : Hid (∀ k j, 0 ≤ (lb n f (nbs W H besF) k).1 j ∧ (lb n f (nbs W H besF) k).1 j ≤ k) := lb_bd n f (nbs W H besF)
  clear hq hok hWW hHH hn hbit
  go_enter Try.func11, Try.ntmps11
  go_wp2_with fail
  refine cM.mono ?_
  rintro e w2 ⟨rfl, hb⟩
  have HS2 := hide (HS0.out.next hb)
  obtain ⟨i0, i1, i2⟩ := HS2.out.im3 1 rfl
  clear cM hb HS0
  go_wp2_with fail
  refine (hnew _).mono ?_
  rintro e w3 ⟨rfl, hr, hb, hs⟩
  have HS3 := hide ((HS2.out.own hb hr.v (.inr (by omega))).box [.int .i64 W, .int .i64 H, .slice (some ⟨w2.heap.size + 1, 0, none⟩) n n] 26)
  generalize hB : w2.heap.size + 1 = B1 at *
  clear hr hb HS2 i0 i1 i2 hs hB
  go_wp2_with fail
  generalize w3.alloc (.cells #[.int .i64 W, .int .i64 H, .slice (some ⟨B1, 0, none⟩) n n] 26) = wX at *
  generalize w3.heap.size = C1 at *
  go_loopw [4, 5, 6, 7, 8, 9] (fun cn i _ _ _ _ wr => ∃ k : Nat, k ≤ n ∧ i = .int .i64 k ∧ cn = .int .i64 (lb n f (nbs W H besF) k).2 ∧ St w [(C1, [.int .i64 W, .int .i64 H, .slice (some ⟨B1, 0, none⟩) n n]), (w.heap.size + 1, [.int .i64 0, .int .i64 0, .slice none 0 0]), (w.heap.size, [.int .i64 W, .int .i64 H, .slice (some ⟨b0, o0, none⟩) n cap])] [(some ⟨B1, 0, none⟩, B1, n, fun z9 => .int .i64 ((lb n f (nbs W H besF) k).1 z9))] wr) (fun _ i _ _ _ _ _ => n - (intOf i).toNat)
  case atStart => exact ⟨0, by omega, rfl, rfl, HS3.out⟩
  case round =>
    obtain ⟨k, hk, rfl, rfl, hs⟩ := hrel
    clear HS3
    have HS := hide hs
    clear hs
    obtain ⟨i0, i1, i2⟩ := HS.out.im3 2 rfl
    obtain ⟨j0, j1, j2⟩ := HS.out.im3 0 rfl
    by_cases hlt : k < n
    · have hlt' : (k : Int) < (n : Int) := by omega
      obtain ⟨b9, o9, e9, z0⟩ := (HP.out.below HS.out.below).at hlt
      cases e9
      obtain ⟨y0, fr0⟩ := (HS.out.rowO (by omega)) k hlt
      have hcnt := lb_cnt n f (nbs W H besF) k
      have HN1 : Hid (∀ A, Fre n f (lb n f (nbs W H besF) k).1 k → Fd (Fre n f (lb n f (nbs W H besF) k).1) (nbs W H besF) k A [] → (lb n f (nbs W H besF) (k + 1)).1 = lbA (lb n f (nbs W H besF) k).1 ((lb n f (nbs W H besF) k).2 + 1) A ∧ (lb n f (nbs W H besF) (k + 1)).2 = (lb n f (nbs W H besF) k).2 + 1) := fun A h1 h2 => h2.done h1
      have HN0 : Hid (¬ Fre n f (lb n f (nbs W H besF) k).1 k → lb n f (nbs W H besF) (k + 1) = lb n f (nbs W H besF) k) := fun h => lb_pass h
      have hbd := HBd.out k
      obtain ⟨⟨l, c⟩, hlc⟩ : ∃ P, lb n f (nbs W H besF) k = P := ⟨_, rfl⟩
      rw [hlc] at HS y0 hcnt HN1 HN0 hbd ⊢
      clear hlc
      dsimp only at *
      have hbk := HBit.out k hlt
      have HL0 : Hid (∀ q, 0 ≤ l q) := fun q => (hbd q).1
      have HPass : Hid (¬ Fre n f l k → (∃ k' : Nat, k' ≤ n ∧ Value.int .i64 ((k : Int) + 1) = .int .i64 k' ∧ Value.int .i64 c = .int .i64 (lb n f (nbs W H besF) k').2 ∧ St w [(C1, [.int .i64 W, .int .i64 H, .slice (some ⟨B1, 0, none⟩) n n]), (w.heap.size + 1, [.int .i64 0, .int .i64 0, .slice none 0 0]), (w.heap.size, [.int .i64 W, .int .i64 H, .slice (some ⟨b0, o0, none⟩) n cap])] [(some ⟨B1, 0, none⟩, B1, n, fun z9 => .int .i64 ((lb n f (nbs W H besF) k').1 z9))] wr)) := fun h => ⟨k + 1, by omega, rfl, by rw [HN0.out h], by rw [HN0.out h]; exact HS.out⟩
      by_cases hf0 : f k = 0
      · rw [hf0] at z0
        have HE := hide (HPass.out (fun h => by have := h.2.1; omega))
        clear HPass HN0 HN1 hcnt hbd
        go_wp2_with fail
        exact ⟨HE.out, by simp [intOf]; omega⟩
      have hf1 : f k = 1 := by rcases hbk with h | h; (exact absurd h hf0); (exact h)
      rw [hf1] at z0
      by_cases hl1 : l k = 0
      case neg =>
        have ql : (l k != 0) = true := by simp [hl1]
        have HE := hide (HPass.out (fun h => hl1 h.2.2))
        clear HPass HN0 HN1 hcnt hbd hl1 hf0 hf1
        generalize l k = y at *
        go_wp2_with fail
        exact ⟨HE.out, by simp [intOf]; omega⟩
      rw [hl1] at y0
      have HK := hide (show Fre n f l k from ⟨hlt, hf1, hl1⟩)
      clear HPass HN0 hbd hl1 hf0 hf1 hbk
      obtain ⟨wo, hwo⟩ : ∃ wo, wo = wr := ⟨_, rfl⟩
      subst hwo
      have hw1 : IntKind.i64.wrap (c + 1) = c + 1 := by rw [IntKind.wrap_i64]; omega
      have hc1 : 1 ≤ c + 1 := by omega
      have HC5 : Hid (c + 1 ≤ 5000) := by show _ ≤ _; omega
      have hB1 : B1 < wo.heap.size := (HS.out.rowO (by omega)).lt (by omega)
      have HO5 : Hid (((wo.setCell ⟨B1, k, none⟩ (.int .i64 (c + 1))).alloc (.cells #[.int .i64 k] 2)).ownsRow wo.heap.size 2 1 (.slice (some ⟨wo.heap.size, 0, none⟩) 1 1) 1 (ints (cs [k]))) := by
        have h := own_one (wo.setCell ⟨B1, k, none⟩ (.int .i64 (c + 1))) k
        rw [show (wo.setCell ⟨B1, k, none⟩ (.int .i64 (c + 1))).heap.size = wo.heap.size by simp] at h
        exact h
      have HS5 : Hid (St w [(C1, [.int .i64 W, .int .i64 H, .slice (some ⟨B1, 0, none⟩) n n]), (w.heap.size + 1, [.int .i64 0, .int .i64 0, .slice none 0 0]), (w.heap.size, [.int .i64 W, .int .i64 H, .slice (some ⟨b0, o0, none⟩) n cap])] [(some ⟨B1, 0, none⟩, B1, n, fun z9 => .int .i64 (lbA l (c + 1) [k] z9))] ((wo.setCell ⟨B1, k, none⟩ (.int .i64 (c + 1))).alloc (.cells #[.int .i64 k] 2))) := by
        have h := (HS.out.upd hlt (c + 1)).next (bnew (wo.setCell ⟨B1, k, none⟩ (.int .i64 (c + 1))) (.cells #[.int .i64 k] 2))
        have e := lbA_snoc l (c + 1) [] k
        rw [lbA_nil] at e
        rw [e] at h
        exact h
      have HLt : Hid (∀ s : Nat → Value, ∀ b ∈ blocks [(C1, [.int .i64 W, .int .i64 H, .slice (some ⟨B1, 0, none⟩) n n]), (w.heap.size + 1, [.int .i64 0, .int .i64 0, .slice none 0 0]), (w.heap.size, [.int .i64 W, .int .i64 H, .slice (some ⟨b0, o0, none⟩) n cap])] [(some ⟨B1, 0, none⟩, B1, n, s)], b < wo.heap.size) := fun s b hb => (HS.out.lt b (blocks_fn hb)).2
      have HB1 : Hid (B1 < wo.heap.size) := hB1
      have HG0 : Hid (wo.heap.size ≤ ((wo.setCell ⟨B1, k, none⟩ (.int .i64 (c + 1))).alloc (.cells #[.int .i64 k] 2)).heap.size) := by show _ ≤ _; simp
      have y0' : (wo.alloc (.cells #[.int .i64 k] 2)).cell? ⟨B1, k, none⟩ = some (.int .i64 0) := ((bnew wo _).cell (p := ⟨B1, k, none⟩) hB1).trans y0
      have fr0' : (wo.alloc (.cells #[.int .i64 k] 2)).frozen? ⟨B1, k, none⟩ = false := ((bnew wo _).frozen (p := ⟨B1, k, none⟩) hB1).trans fr0
      have j2' : (wo.alloc (.cells #[.int .i64 k] 2)).cell? ⟨C1, 2, none⟩ = some (.slice (some ⟨B1, 0, none⟩) n n) := ((bnew wo _).cell (World.block_lt_of_cell? wo _ j2)).trans j2
      have HW0 : Hid (w.heap.size ≤ wo.heap.size) := HS.out.below.size
      have HCN := hide hcnt
      clear hcnt
      generalize hc : c + 1 = C at *
      go_wp2_with fail
      clear y0 y0' fr0 fr0' j2' i0 i1 i2 j0 j1 j2 z0 hw1 hB1
      generalize (wo.setCell ⟨B1, k, none⟩ (.int .i64 C)).alloc (.cells #[.int .i64 k] 2) = w5 at *
      generalize (Value.slice (some ⟨wo.heap.size, 0, none⟩) 1 1) = v5 at *
      obtain ⟨G, hG⟩ : ∃ G, wo.heap.size = G := ⟨_, rfl⟩
      rw [hG] at HO5 HLt HG0 HW0 HB1
      clear hG
      have HCc := hide hc
      clear hc
      go_loopw [6, 7, 8, 9] (fun v i _ _ wr => ∃ (A : List Nat) (I : Nat), I ≤ A.length ∧ i = .int .i64 I ∧ Fd (Fre n f l) (nbs W H besF) k A (A.drop I) ∧ St w [(C1, [.int .i64 W, .int .i64 H, .slice (some ⟨B1, 0, none⟩) n n]), (w.heap.size + 1, [.int .i64 0, .int .i64 0, .slice none 0 0]), (w.heap.size, [.int .i64 W, .int .i64 H, .slice (some ⟨b0, o0, none⟩) n cap])] [(some ⟨B1, 0, none⟩, B1, n, fun z9 => .int .i64 (lbA l C A z9))] wr ∧ wr.ownsRow G 2 1 v A.length (ints (cs A)) ∧ G ≤ wr.heap.size) (fun _ i _ _ _ => n - (intOf i).toNat)
      case atStart => exact ⟨[k], 0, by simp, rfl, Fd.start _ _ _, HS5.out, HO5.out, HG0.out⟩
      case round =>
        obtain ⟨A, I, hI, rfl, hF, hs, ho, hg⟩ := hrel
        clear HS5 HO5 HG0 HS
        have HS := hide hs
        have HO := hide ho
        have HF := hide hF
        have HG := hide hg
        clear hs ho hF hg
        have hAn := (HF.out.len HK.out).1
        have HAn := hide hAn
        by_cases hIlt : I < A.length
        · have hI' : (I : Int) < (A.length : Int) := by omega
          obtain ⟨p, hp⟩ : ∃ p, A[I]? = some p := ⟨_, List.getElem?_eq_getElem hIlt⟩
          have hdr : A.drop I = p :: A.drop (I + 1) := by rw [List.drop_eq_getElem_cons hIlt, (List.getElem?_eq_some_iff.1 hp).2]
          have hpn : p < n := ((HF.out.len HK.out).2 p (List.mem_of_getElem? hp)).1
          obtain ⟨bv, capv, rfl, hGb, hcell⟩ := own_partsL HO.out (by omega)
          obtain ⟨x0, -⟩ := hcell I hIlt
          rw [cs_at hp] at x0
          obtain ⟨i0, i1, i2⟩ := HS.out.im3 2 rfl
          obtain ⟨e1, ⟨e2, e3⟩, ⟨e4, e5⟩⟩ := HN.out
          have cBe := fun w' => l8Beside_any W H p e2 e3 e4 e5 (by omega) w'
          have HIn := hide (besL_in (H := H) e1 e2 hpn)
          have HPop : Hid (∀ N, flA (Fre n f l) A (besL W H p) = A ++ N → Fd (Fre n f l) (nbs W H besF) k (A ++ N) ((A ++ N).drop (I + 1))) := fun N hN => by
            rw [List.drop_append_of_le_length (by omega)]
            refine HF.out.pop (p := p) (S' := A.drop (I + 1)) (by rw [hdr]; simp) (fun j hj => by rw [hdr] at hj; exact List.mem_cons.1 hj) (fun j hj => by rw [hdr]; exact List.mem_cons_of_mem _ hj) (L := besL W H p) (fun x => by rw [nbs_bes e1 e2 hpn]) (fun x hx => (besL_in e1 e2 hpn x hx).1) hN
          have HBl := hide (besL_len W H p)
          have hAI : A.length ≤ 4096 := by omega
          have hI4 : I ≤ 4096 := by omega
          clear e1 e2 e3 e4 e5 hp hdr hcell hpn hGb
          generalize besL W H p = L at *
          obtain ⟨wp, hwp⟩ : ∃ wp, wp = wr := ⟨_, rfl⟩
          subst hwp
          go_upto_region 15 with fail
          go_cut [8] (fun s wc => ∃ v8, v8 = s ∧ wc.ownsRow wp.heap.size 2 1 v8 L.length (ints L) ∧ Below wp.heap.size wp wc)
          case first =>
            go_region_with (go_at_call 28; (with_reducible refine (cBe _).mono ?_); rintro e w6 ⟨v8, rfl, ho8, hb8⟩; have HO8 := hide ho8; have HB8 := hide hb8; clear ho8 hb8)
            all_goals
              go_wp2_with fail
              go_meet
              exact ⟨_, rfl, HO8.out, (Below.refl _ _).drew.trans HB8.out⟩
          case rest =>
          obtain ⟨v8, rfl, ho8, hb8⟩ := hcut
          have HS6 := hide (HS.out.next hb8)
          have HO6 := hide (ownsRow_below' HO.out hb8)
          have HO8 := hide ho8
          have HGw := HG.out
          have HA8 : Hid (Apart v8 (.slice (some ⟨bv, 0, none⟩) A.length capv)) := fun b hb hb' => by
            have h1 := owns_ge ho8 b hb
            have h2 := owns_lt HO.out b hb'
            omega
          have HG6 : Hid (G ≤ wc.heap.size) := Nat.le_trans HG.out hb8.size
          have HGP : Hid (G ≤ wp.heap.size) := HG.out
          clear ho8 hb8 HS HO HGw HG x0 i0 i1 i2 cBe
          obtain ⟨N, hN⟩ := flA_ext (Fre n f l) L A
          have HFN := hide (HPop.out N hN)
          have HNN := hide hN
          clear hN HPop
          go_wp2_with fail
          generalize (Value.slice (some ⟨bv, 0, none⟩) A.length capv) = vA at *
          go_loopw [6, 9] (fun v j wr => ∃ J : Nat, J ≤ L.length ∧ j = .int .i64 J ∧ St w [(C1, [.int .i64 W, .int .i64 H, .slice (some ⟨B1, 0, none⟩) n n]), (w.heap.size + 1, [.int .i64 0, .int .i64 0, .slice none 0 0]), (w.heap.size, [.int .i64 W, .int .i64 H, .slice (some ⟨b0, o0, none⟩) n cap])] [(some ⟨B1, 0, none⟩, B1, n, fun z9 => .int .i64 (lbA l C (flA (Fre n f l) A (L.take J)) z9))] wr ∧ wr.ownsRow G 2 1 v (flA (Fre n f l) A (L.take J)).length (ints (cs (flA (Fre n f l) A (L.take J)))) ∧ wr.ownsRow wp.heap.size 2 1 v8 L.length (ints L) ∧ Apart v8 v ∧ G ≤ wr.heap.size) (fun _ j _ => L.length - (intOf j).toNat)
          case atStart => exact ⟨0, by omega, rfl, by simpa [flA] using HS6.out, by simpa [flA] using HO6.out, HO8.out, HA8.out, HG6.out⟩
          case round =>
            obtain ⟨J, hJ, rfl, hs, ho, ho8, ha8, hg⟩ := hrel
            clear HS6 HO6 HO8 HA8 HG6
            have HS := hide hs
            have HO := hide ho
            have HO8 := hide ho8
            have HA8 := hide ha8
            have HG := hide hg
            clear hs ho ho8 ha8 hg
            by_cases hJlt : J < L.length
            · have hJ' : (J : Int) < (L.length : Int) := by omega
              obtain ⟨x, hx⟩ : ∃ x, L[J]? = some x := ⟨_, List.getElem?_eq_getElem hJlt⟩
              obtain ⟨hx0, hx1⟩ := HIn.out x (List.mem_of_getElem? hx)
              obtain ⟨q, rfl⟩ : ∃ q : Nat, x = (q : Int) := ⟨x.toNat, by omega⟩
              have hqn : q < n := by omega
              have htk := take_snoc hx
              obtain ⟨b8, cap8, hv8, hGb8, hcell8⟩ := own_partsL HO8.out (by omega)
              subst hv8
              obtain ⟨u0, -⟩ := hcell8 J hJlt
              rw [show L.getD J 0 = (q : Int) by simp [List.getD, hx]] at u0
              obtain ⟨i0, i1, i2⟩ := HS.out.im3 2 rfl
              obtain ⟨j0, j1, j2⟩ := HS.out.im3 0 rfl
              obtain ⟨b9, o9, e9, z0⟩ := (HP.out.below HS.out.below).at hqn
              cases e9
              obtain ⟨y0, fr0⟩ := (HS.out.rowO (by omega)) q hqn
              have hfree := spec_free (f := f) (l := l) (c := C) (A := flA (Fre n f l) A (L.take J)) (q := q) (n := n) hc1 hqn
              have hfl : flA (Fre n f l) A (L.take (J + 1)) = fl1 (Fre n f l) (flA (Fre n f l) A (L.take J)) (q : Int) := by rw [htk, flA_snoc]
              obtain ⟨A2, hA2⟩ : ∃ A2, flA (Fre n f l) A (L.take (J + 1)) = A2 := ⟨_, rfl⟩
              rw [hA2] at hfl
              have HA2 := hide hA2
              have hAl : (flA (Fre n f l) A (L.take J)).length ≤ 4096 := by
                obtain ⟨N2, hN2⟩ := flA_ext (Fre n f l) (L.drop J) (flA (Fre n f l) A (L.take J))
                have e : flA (Fre n f l) A L = flA (Fre n f l) (flA (Fre n f l) A (L.take J)) (L.drop J) := by
                  unfold flA
                  rw [← List.foldl_append, List.take_append_drop]
                have h1 := (HFN.out.len HK.out).1
                rw [← HNN.out, e, hN2, List.length_append] at h1
                omega
              clear hA2 htk hx hcell8 hx0 hx1
              generalize flA (Fre n f l) A (L.take J) = A1 at *
              have HJ4 : Hid (L.length ≤ 4) := HBl.out
              have hJ4 : J ≤ 4 := by have := HJ4.out; omega
              obtain ⟨wq, hwq⟩ : ∃ wq, wq = wr := ⟨_, rfl⟩
              subst hwq
              have SK : Nonempty (Up wq) := up_ne wq
              have p0 := fun p : Up wq => p.cell u0
              have p1 := fun p : Up wq => p.cell i2
              have p2 := fun p : Up wq => p.cell j2
              have p3 := fun p : Up wq => p.cell z0
              have p4 := fun p : Up wq => p.cell y0
              have HU0 := hide u0
              have HJ2 := hide j2
              have HY0 := hide (And.intro y0 fr0)
              have HFL := hide hfl
              have HFR := hide hfree
              clear u0 i0 i1 i2 j0 j1 j2 z0 y0 fr0 hfl hfree
              have hMiss : (f q ≠ 1 ∨ (f q = 1 ∧ lbA l C A1 q ≠ 0)) ∨ (f q = 1 ∧ lbA l C A1 q = 0) := by omega
              rcases hMiss with hm | hm
              · have HM := hide (show A2 = A1 from by
                  rw [HFL.out]
                  refine fl1_no (fun h => ?_)
                  rw [Int.toNat_natCast] at h
                  have := HFR.out.2 h
                  omega)
                rcases hm with hm | ⟨hm, hm2⟩
                · have qf : (f q == 1) = false := by simp [hm]
                  clear hm
                  generalize f q = y at *
                  generalize lbA l C A1 q = z at *
                  go_upto_region 19 with fail
                  refine region_up (by kernel_rfl) (by kernel_rfl) ?_
                  repeat (go_big_quiet_step (exact rfl))
                  refine wpQuiet_nil ?_
                  intro _ hw2
                  obtain ⟨pq, hw3⟩ := hw2
                  subst hw3
                  have HS2 := hide (HS.out.next pq.below)
                  have HO2 := hide (ownsRow_below' HO.out pq.below)
                  have HO82 := hide (ownsRow_below' HO8.out pq.below)
                  have HG2 : Hid (G ≤ pq.w.heap.size) := Nat.le_trans HG.out pq.below.size
                  clear p0 p1 p2 p3 p4 SK
                  generalize pq.w = w2 at *
                  go_wp2_with fail
                  exact ⟨⟨J + 1, by omega, rfl, by rw [HA2.out, HM.out]; exact HS2.out, by rw [HA2.out, HM.out]; exact HO2.out, HO82.out, HA8.out, HG2.out⟩, by simp [intOf]; omega⟩
                · rw [hm] at p3
                  have qf : (lbA l C A1 q == 0) = false := by simp [hm2]
                  clear hm hm2
                  generalize lbA l C A1 q = z at *
                  go_upto_region 19 with fail
                  refine region_up (by kernel_rfl) (by kernel_rfl) ?_
                  repeat (go_big_quiet_step (exact rfl))
                  refine wpQuiet_nil ?_
                  intro _ hw2
                  obtain ⟨pq, hw3⟩ := hw2
                  subst hw3
                  have HS2 := hide (HS.out.next pq.below)
                  have HO2 := hide (ownsRow_below' HO.out pq.below)
                  have HO82 := hide (ownsRow_below' HO8.out pq.below)
                  have HG2 : Hid (G ≤ pq.w.heap.size) := Nat.le_trans HG.out pq.below.size
                  clear p0 p1 p2 p3 p4 SK
                  generalize pq.w = w2 at *
                  go_wp2_with fail
                  exact ⟨⟨J + 1, by omega, rfl, by rw [HA2.out, HM.out]; exact HS2.out, by rw [HA2.out, HM.out]; exact HO2.out, HO82.out, HA8.out, HG2.out⟩, by simp [intOf]; omega⟩
              · obtain ⟨hm1, hm2⟩ := hm
                have HM : Hid (A2 = A1 ++ [q]) := by
                  show _ = _
                  rw [HFL.out, fl1_yes (by rw [Int.toNat_natCast]; exact HFR.out.1 ⟨hm1, hm2⟩), Int.toNat_natCast]
                have HZ := hide hm2
                rw [hm1] at p3
                rw [hm2] at p4 HY0
                clear hm1 hm2
                go_upto_region 19 with fail
                refine region_up (by kernel_rfl) (by kernel_rfl) ?_
                repeat (go_big_quiet_step (exact rfl))
                refine wpQuiet_nil ?_
                intro _ hw2
                obtain ⟨pq, hw3⟩ := hw2
                subst hw3
                have HS2 := hide (HS.out.next pq.below)
                have HO2 := hide (ownsRow_below' HO.out pq.below)
                have HO82 := hide (ownsRow_below' HO8.out pq.below)
                have HG2 : Hid (G ≤ pq.w.heap.size) := Nat.le_trans HG.out pq.below.size
                have u0 := pq.cell HU0.out
                have j2 := pq.cell HJ2.out
                have y0 := pq.cell HY0.out.1
                have fr0 := (pq.below.frozen (p := ⟨B1, q, none⟩) (World.block_lt_of_cell? wq _ HY0.out.1)).trans HY0.out.2
                clear p0 p1 p2 p3 p4 SK HS HO HO8 HG
                generalize pq.w = w2 at *
                have HB8 : Hid (b8 ≠ B1) := by have := HGP.out; have := HB1.out; show _ ≠ _; omega
                have HO3 : Hid ((w2.setCell ⟨B1, q, none⟩ (.int .i64 C)).drew.ownsRow G 2 1 u6 A1.length (ints (cs A1))) := ownsRow_below' (ownsRow_setCell_below HO2.out (a := ⟨B1, q, none⟩) HB1.out _) (Below.refl _ _).drew
                have HO83 : Hid ((w2.setCell ⟨B1, q, none⟩ (.int .i64 C)).drew.ownsRow wp.heap.size 2 1 (.slice (some ⟨b8, 0, none⟩) L.length cap8) L.length (ints L)) := ownsRow_below' (ownsRow_setCell_below HO82.out (a := ⟨B1, q, none⟩) (Nat.lt_of_lt_of_le HB1.out HGP.out) _) (Below.refl _ _).drew
                have HS3 : Hid (St w [(C1, [.int .i64 W, .int .i64 H, .slice (some ⟨B1, 0, none⟩) n n]), (w.heap.size + 1, [.int .i64 0, .int .i64 0, .slice none 0 0]), (w.heap.size, [.int .i64 W, .int .i64 H, .slice (some ⟨b0, o0, none⟩) n cap])] [(some ⟨B1, 0, none⟩, B1, n, fun z9 => .int .i64 (lbA l C (A1 ++ [q]) z9))] (w2.setCell ⟨B1, q, none⟩ (.int .i64 C)).drew) := by
                  have h := (HS2.out.upd hqn C).drew
                  rw [lbA_snoc] at h
                  exact h
                have HG3 : Hid (G ≤ (w2.setCell ⟨B1, q, none⟩ (.int .i64 C)).drew.heap.size) := by show _ ≤ _; simp [World.drew]; exact HG2.out
                have u03 : (w2.setCell ⟨B1, q, none⟩ (.int .i64 C)).drew.cell? ⟨b8, J, none⟩ = some (.int .i64 q) := (World.cell?_of_block (w := w2) (a := ⟨b8, J, none⟩) (heap_setCell_other w2 ⟨B1, q, none⟩ b8 _ HB8.out)).trans u0
                go_upto_region 20 with fail
                go_region
                all_goals
                  clear y0 fr0 j2 u0 HS2 HO2 HO82 HG2
                  generalize (w2.setCell ⟨B1, q, none⟩ (.int .i64 C)).drew = w3 at *
                  have HL1 : Hid (A1.length ≤ 1048576) := by show _ ≤ _; omega
                  go_wp2_with (refine growN _ rfl _ _ rfl G _ A1.length (cs A1) rfl w3 HO3.out (Below.refl _ _) HG3.out (q : Int) rfl HL1.out ?_)
                  intro v' w' ho' hb' hs' hk' hm'
                  have HS9 := hide (HS3.out.upto hb' HW0.out (HLt.out _))
                  have HO9 : Hid (w'.ownsRow G 2 1 v' (A1 ++ [q]).length (ints (cs (A1 ++ [q])))) := by
                    show World.ownsRow _ _ _ _ _ _ _
                    rw [List.length_append, cs_app]; exact ho'
                  have HO89 := hide (owns_side HO83.out hk' HA8.out)
                  have HA9 := hide (HA8.out.moved hm' HO83.out)
                  have HG9 : Hid (G ≤ w'.heap.size) := Nat.le_trans HG3.out (Nat.le_of_lt hs')
                  clear ho' hb' hs' hk' hm' u03 HS3 HO3 HO83 HG3 HA8
                  go_wp2_with fail
                  exact ⟨⟨J + 1, by omega, rfl, by rw [HA2.out, HM.out]; exact HS9.out, by rw [HA2.out, HM.out]; exact HO9.out, HO89.out, HA9.out, HG9.out⟩, by simp [intOf]; omega⟩
            · obtain rfl : J = L.length := by omega
              obtain ⟨a8, cp8, hv8⟩ := own_form HO8.out
              subst hv8
              have HNJ : Hid (¬ (L.length : Int) < (L.length : Int)) := by show ¬ _; omega
              have hIA : I + 1 ≤ (A ++ N).length := by rw [List.length_append]; omega
              have HR : Hid (∃ (A' : List Nat) (I' : Nat), I' ≤ A'.length ∧ Value.int .i64 ((I : Int) + 1) = .int .i64 I' ∧ Fd (Fre n f l) (nbs W H besF) k A' (A'.drop I') ∧ St w [(C1, [.int .i64 W, .int .i64 H, .slice (some ⟨B1, 0, none⟩) n n]), (w.heap.size + 1, [.int .i64 0, .int .i64 0, .slice none 0 0]), (w.heap.size, [.int .i64 W, .int .i64 H, .slice (some ⟨b0, o0, none⟩) n cap])] [(some ⟨B1, 0, none⟩, B1, n, fun z9 => .int .i64 (lbA l C A' z9))] wr ∧ wr.ownsRow G 2 1 u6 A'.length (ints (cs A')) ∧ G ≤ wr.heap.size) := ⟨A ++ N, I + 1, hIA, rfl, HFN.out, by have h := HS.out; rw [List.take_length, HNN.out] at h; exact h, by have h := HO.out; rw [List.take_length, HNN.out] at h; exact h, HG.out⟩
              clear HS HO HFN HNN hIA
              go_wp2_with fail
              exact ⟨HR.out, by simp [intOf]; omega⟩
        · obtain rfl : I = A.length := by omega
          obtain ⟨av, cv, rfl⟩ := own_form HO.out
          have hF := HF.out
          rw [List.drop_length] at hF
          obtain ⟨e1, e2⟩ := HN1.out A HK.out hF
          have HR : Hid (∃ k' : Nat, k' ≤ n ∧ Value.int .i64 ((k : Int) + 1) = .int .i64 k' ∧ Value.int .i64 C = .int .i64 (lb n f (nbs W H besF) k').2 ∧ St w [(C1, [.int .i64 W, .int .i64 H, .slice (some ⟨B1, 0, none⟩) n n]), (w.heap.size + 1, [.int .i64 0, .int .i64 0, .slice none 0 0]), (w.heap.size, [.int .i64 W, .int .i64 H, .slice (some ⟨b0, o0, none⟩) n cap])] [(some ⟨B1, 0, none⟩, B1, n, fun z9 => .int .i64 ((lb n f (nbs W H besF) k').1 z9))] wr) := ⟨k + 1, by omega, rfl, by rw [e2], by rw [e1]; exact HS.out⟩
          have HKn : Hid (k < n) := hlt
          clear hF e1 e2
          go_wp2_with fail
          exact ⟨HR.out, by simp [intOf]; omega⟩
    · obtain rfl : k = n := by omega
      obtain ⟨z0, z1, z2⟩ := HS.out.im3 1 rfl
      obtain ⟨e0, e1, e2⟩ := HS.out.fr3 1 rfl
      go_wp2_with fail
      exact bodyPost_ret (v := im W H (some ⟨B1, 0, none⟩) k k) (by simp [results, Try.results11, go_sem, z0, z1, z2]) rfl ((HS.out.fill3' (L1 := [_]) _ _ _).imR W H k)

end Go.Proofs.Ytfaponkmmiiehaa
