/- The numbers of a list at places that another iterator gives. -/
import Derived.Test.YtedjnemijeaeoaaItr
namespace Go.Proofs.Ytedjnemijeaeoaa
open Go.RowKit Go.Shelf

attribute [local go_sem] Oper.semAt_some

theorem own_ks {β : Type} {S : Nat → Prop} {W : World} {B : Nat} (hB : W.heap.size ≤ B) : OwnFrom B (fun (_ : β) V => KS S W V) := fun _ X Y row hs hg hr =>
  ⟨Nat.le_trans hs.1 hg.size, fun k hk hl => (hg.block k (Nat.lt_of_lt_of_le hl hs.1) (fun e => by have := (hr k e.symm).1; omega)).trans (hs.2 k hk hl)⟩
theorem OwnFrom.up {β : Type} {B B' : Nat} {I : β → World → Prop} (h : OwnFrom B I) (hB : B ≤ B') : OwnFrom B' I := fun s A C row hs hg hr => h s A C row hs hg (fun r e => ⟨Nat.le_trans hB (hr r e).1, (hr r e).2⟩)
theorem OwnFrom.drew {β : Type} {B : Nat} {I : β → World → Prop} (h : OwnFrom B I) {s : β} {W : World} (hs : I s W) : I s W.drew := h s W _ none hs ⟨rfl, rfl, rfl, Nat.le_refl _, fun _ _ _ => rfl⟩ (fun r e => by cases e)

set_option maxRecDepth 100000 in
theorem numbersAt_any (a : Option Addr) (len cap gf : Nat) (lb : Array Value) (w : World) :
    Calls Try.prog 31 #[.slice a len cap, .func (.func gf) #[] lb] w fun e w' => e = .returned (.func (.func 54) #[] #[.pointer (some ⟨w.heap.size + 1, 0, none⟩), .pointer (some ⟨w.heap.size, 0, none⟩)]) ∧
      w'.cell? ⟨w.heap.size + 1, 0, none⟩ = some (.func (.func gf) #[] lb) ∧ w'.cell? ⟨w.heap.size, 0, none⟩ = some (.slice a len cap) ∧ w'.heap.size = w.heap.size + 2 ∧ Below w.heap.size w w' := by
  go_enter Try.func31, Try.ntmps31
  go_wp2
  go_ret
  refine ⟨rfl, by simp [go_sem], by simp [go_sem], by simp, ((Below.refl _ w).alloc (Nat.le_refl _) _).alloc (by simp) _⟩

set_option maxRecDepth 100000 in
set_option maxHeartbeats 4000000 in
theorem numbersAt_gv (a : Option Addr) (len cap : Nat) (f : Nat → Int) (gf : Nat) (lb : Array Value) (ps : List Int) (S : Nat → Prop) (w : World) (Bp Bl : Nat)
    (eg : ∀ args w, (callFunc gf args).run Try.prog w = .ok (.enter gf args) w)
    (hcp : w.cell? ⟨Bp, 0, none⟩ = some (.func (.func gf) #[] lb)) (hcl : w.cell? ⟨Bl, 0, none⟩ = some (.slice a len cap)) (px : Px a len f w) (hseq : Gv Try.prog gf lb ps S w)
    (hps : ∀ x ∈ ps, ∃ k : Nat, x = k ∧ k < len) (hS : ∀ p, a = some p → S p.block) (hSl : S Bl) (hSb : ∀ k, S k → k < w.heap.size) :
    Gv Try.prog 54 #[.pointer (some ⟨Bp, 0, none⟩), .pointer (some ⟨Bl, 0, none⟩)] (ps.map (fun x => f x.toNat)) S w := by
  intro l J W hb hJ hY h0
  have hcpW := (hb.cell (p := ⟨Bp, 0, none⟩) (World.block_lt_of_cell? w _ hcp)).trans hcp
  have hclW := (hb.cell (p := ⟨Bl, 0, none⟩) (World.block_lt_of_cell? w _ hcl)).trans hcl
  have HP := hide (px.below hb)
  refine (callsIn_wide (n := 3)).1 ?_
  refine callsIn_of_wp_marks Try.func54 rfl trivial ?_ rfl
  simp only [Try.ntmps54, List.size_toArray, List.length_cons, List.length_nil, Nat.reduceAdd, Nat.reduceSub, Array.replicate_succ, Array.replicate_zero, List.push_toArray, List.append_toArray, List.nil_append, List.cons_append]
  have hcpV := ((((Below.refl W.heap.size W).alloc (Nat.le_refl _) (.cells #[.func (.yield l) #[] #[]] 51))).cell (p := ⟨Bp, 0, none⟩) (World.block_lt_of_cell? W _ hcpW)).trans hcpW
  gi_wp2
  obtain ⟨V, hV⟩ : ∃ V, V = W.alloc (.cells #[.func (.yield l) #[] #[]] 51) := ⟨_, rfl⟩
  have hVs : V.heap.size = W.heap.size + 1 := by rw [hV]; simp
  have hVb : Below W.heap.size W V := by rw [hV]; exact (Below.refl _ W).alloc (Nat.le_refl _) _
  have cY : V.cell? ⟨W.heap.size, 0, none⟩ = some (.func (.yield l) #[] #[]) := by rw [hV]; simp [go_sem]
  have cL := (hVb.cell (p := ⟨Bl, 0, none⟩) (World.block_lt_of_cell? W _ hclW)).trans hclW
  have HPV := hide (HP.out.below hVb)
  have hJV : J [] V := by rw [hV]; exact hJ.alloc _ h0
  rw [← hV]
  clear hV hcpW hclW HP hcpV
  refine wpIn_gives (gf := gf) (lb := lb) rfl eg hseq (fun k hk => by have := hSb k hk; have := hb.size; omega) (hb.trans (hVb.mono hb.size)) rfl
    (fun pre U => J (pre.map (fun x => f x.toNat)) U ∧ KS (fun k => S k ∨ W.heap.size ≤ k) V U)
    (OwnFrom.and (fun s A B row hs hg hr => hJ (s.map (fun x => f x.toNat)) A B row hs hg (fun r e => ⟨by have := (hr r e).1; omega, (hr r e).2⟩)) (own_ks (Nat.le_refl _)))
    ⟨hJV, KS.refl _ _⟩
    (fun x => { tmps := #[.func (.yield l) #[] #[], .pointer (some ⟨Bp, 0, none⟩), .pointer (some ⟨Bl, 0, none⟩), .pointer (some ⟨W.heap.size, 0, none⟩), .int .i64 x, .func (.func gf) #[] lb, .int .i64 x, undef, undef, undef, undef, undef, undef, undef], defers := [] }) ?assign ?body ?done
  case assign =>
    intro l x W K hK
    gi_wp2
    exact hK
  case body =>
    rintro l2 pre x U ⟨hj, hk⟩ hpre
    obtain ⟨q, rfl, hq⟩ := hps x (hpre.subset (by simp))
    obtain ⟨b, off, rfl, hz⟩ := (hk.px (fun p e => .inl (hS p e)) HPV.out).at hq
    have cY2 := hk.cell (p := ⟨W.heap.size, 0, none⟩) (.inr (Nat.le_refl _)) cY
    have cL2 := hk.cell (p := ⟨Bl, 0, none⟩) (.inl hSl) cL
    have hpm : (pre.map (fun x => f x.toNat) ++ [f q]) <+: ps.map (fun x => f x.toNat) := by
      have := hpre.map (fun x : Int => f x.toNat)
      simpa using this
    obtain ⟨fn, tmps, assign, body, hy, hR⟩ := YieldAt.any 2 (hY _ (f q) U.drew (OwnFrom.drew hJ hj) hpm)
    have hR' : RoundIn (Fence.wide.inRound l2) 2 Try.prog l fn tmps assign body U.drew _ := hR
    clear hR hY HPV cY cL
    gi_wp2
    gi_region_with (refine hR'.mono ?_; rintro e W3 ⟨rfl, hJ3, hk3⟩)
    all_goals
      gi_wp2
      have hk4 := (KS.drew U).trans hk3
      refine ⟨hk4.mono (fun k h => h.imp id (fun h => by omega)), ?_, hk.trans hk4⟩
      rw [List.map_append]
      exact hJ3
  case done =>
    rintro D U hD ⟨hj, hk⟩ hK
    gi_wp2
    refine ⟨by simp, .inl ⟨_, _, rfl, run_takeDeferred hK, ?_⟩⟩
    exact ⟨_, results_none rfl _ _ _, ⟨_, rfl⟩, hJ.putObj _ hj (by omega) hK rfl⟩

end Go.Proofs.Ytedjnemijeaeoaa
