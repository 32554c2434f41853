/- An archive is damaged: numbers, joins, the program's damaged. -/
import Derived.Test.YtcdpnofjahdieaaAgf
namespace Go.Proofs.Ytcdpnofjahdieaa
open Go.RowKit

def dmN (n : Nat) (at_ : Int) : Nat := if 0 ≤ at_ ∧ at_ < n then n else 0
def dmC (E : Nat → SCopy) (k : Nat) (body : ByteArray) : Nat → SCopy := fun q => if q = k then ⟨(E q).f0, (E q).f1, body, (E q).f3⟩ else E q
theorem dmF (E : Nat → SCopy) (k : Nat) (body : ByteArray) (q : Nat) : FCopy (dmC E k body) q = if q = k * 4 + 2 then .string body else FCopy E q := by
  unfold FCopy dmC
  by_cases h : q = k * 4 + 2
  · subst h
    have h1 : (k * 4 + 2) % 4 = 2 := by omega
    have h2 : (k * 4 + 2) / 4 = k := by omega
    simp [h1, h2]
  · rw [if_neg h]
    by_cases hk : q / 4 = k
    · have h2 : q % 4 ≠ 2 := by omega
      simp only [hk, if_true]
      by_cases h0 : q % 4 = 0
      · simp [h0]
      · by_cases h1 : q % 4 = 1
        · simp [h1]
        · simp [h0, h1, h2]
    · simp only [if_neg hk]
theorem RowV.putV {b n : Nat} {F F' : Nat → Value} {w : World} (h : RowV b n F w) {k : Nat} (v : Value) (e : ∀ q, q < n → F' q = if q = k then v else F q) : RowV b n F' (w.setCell ⟨b, k, none⟩ v) := fun q hq => by
  rw [e q hq]
  refine ⟨?_, by simpa using (h q hq).2⟩
  by_cases hk : q = k
  · subst hk
    rw [if_pos rfl]
    exact World.cell?_setCell_same _ _ _ (h q hq).1
  · rw [if_neg hk, World.cell?_setCell_other _ _ _ _ (by simp; try omega)]
    exact (h q hq).1
theorem RdA.px {bI nI : Nat} {I : Nat → SEntry} {bL nL : Nat} {L : Nat → SCopy} {bR nR : Nat} {R : Nat → SCopy} {bA nA : Nat} {A : Nat → SNote} {w : World} (h : RdA bI nI I bL nL L bR nR R bA nA A w) : PxA (some ⟨bI, 0, none⟩) nI I (some ⟨bL, 0, none⟩) nL L (some ⟨bR, 0, none⟩) nR R (some ⟨bA, 0, none⟩) nA A w :=
  ⟨.inr ⟨bI, 0, rfl, fun k hk => by rw [Nat.zero_add]; exact h.i k hk⟩, .inr ⟨bL, 0, rfl, fun k hk => by rw [Nat.zero_add]; exact h.l k hk⟩, .inr ⟨bR, 0, rfl, fun k hk => by rw [Nat.zero_add]; exact h.r k hk⟩, .inr ⟨bA, 0, rfl, fun k hk => by rw [Nat.zero_add]; exact h.a k hk⟩⟩
/-- what a call answers joins what is in hand -/
theorem St.join {w0 : World} {L : List BoxT} {O O2 : List OwnT} {w w' : World} (h : St w0 L O w) (h2 : St w [] O2 w') : St w0 L (O2 ++ O) w' := by
  have k := h.next h2.below
  have pm : (blocks L (O2 ++ O)).Perm (blocks [] O2 ++ blocks L O) := by
    unfold blocks
    rw [List.filter_append, List.map_append, List.map_nil, List.nil_append, ← List.append_assoc, ← List.append_assoc]
    exact (List.perm_append_comm).append_right _
  refine ⟨k.below, k.bx, fun x hx => ?_, fun b hb => ?_, ?_⟩
  · rcases List.mem_append.1 hx with hx | hx
    · exact h2.ow x hx
    · exact k.ow x hx
  · rcases List.mem_append.1 (pm.mem_iff.1 hb) with hb | hb
    · have := h2.lt b hb
      exact ⟨Nat.le_trans h.below.size this.1, this.2⟩
    · exact k.lt b hb
  · rw [pm.nodup_iff, List.nodup_append]
    refine ⟨h2.nd, h.nd, fun a ha b hb e => ?_⟩
    have h3 := (h2.lt a ha).1
    have h4 := (h.lt b hb).2
    omega
theorem St.putV {w0 : World} {L : List BoxT} {O1 O2 : List OwnT} {w w' : World} {a : Option Addr} {b n : Nat} {f f' : Nat → Value} (h : St w0 L (O1 ++ (a, b, n, f) :: O2) w) (h0 : n ≠ 0) (hk : Kept b w w') (ho : OwV a b n f' w') : St w0 L (O1 ++ (a, b, n, f') :: O2) w' := by
  have e : bk n b w = b := bk_pos h0
  exact h.mark (by rw [e]; exact hk) (by rw [e]; exact ho)
/-- a list is left out: nothing of it is told -/
theorem St.none_ {w0 : World} {L : List BoxT} {O1 O2 : List OwnT} {w : World} {a : Option Addr} {b n : Nat} {f : Nat → Value} (h : St w0 L (O1 ++ (a, b, n, f) :: O2) w) (a' : Option Addr) (f' : Nat → Value) (b' : Nat) : St w0 L (O1 ++ (a', b', 0, f') :: O2) w := by
  have h1 := h.sub (List.Sublist.refl _) (show (O1 ++ O2).Sublist (O1 ++ (a, b, n, f) :: O2) from List.Sublist.append (List.Sublist.refl _) (List.sublist_cons_self _ _))
  have e : blocks L (O1 ++ (a', b', 0, f') :: O2) = blocks L (O1 ++ O2) := by
    unfold blocks
    rw [List.filter_append, List.filter_append, List.filter_cons_of_neg (by simp)]
  refine ⟨h1.below, h1.bx, fun x hx => ?_, by rw [e]; exact h1.lt, by rw [e]; exact h1.nd⟩
  rcases List.mem_append.1 hx with hx | hx
  · exact h1.ow x (List.mem_append.2 (.inl hx))
  · rcases List.mem_cons.1 hx with rfl | hx
    · exact .inl rfl
    · exact h1.ow x (List.mem_append.2 (.inr hx))
/-- the answer -/
def DmR (ok right : Bool) (nI : Nat) (I : Nat → SEntry) (nL : Nat) (L : Nat → SCopy) (nR : Nat) (R : Nat → SCopy) (nA : Nat) (A : Nat → SNote) (clock at_ : Int) (body : ByteArray) (w : World) : Ending → World → Prop :=
  ArR (if ok then nI else 0) I (if ok then (if right then nL else dmN nL at_) else 0) (if right then L else dmC L at_.toNat body) (if ok then (if right then dmN nR at_ else nR) else 0) (if right then dmC R at_.toNat body else R) (if ok then nA else 0) A (if ok then clock else 0) w

set_option maxRecDepth 100000 in
set_option maxHeartbeats 2000000 in
theorem damaged_in (b n c : Nat) (E : Nat → SCopy) (k : Nat) (hk : k < n) (body : ByteArray) (hl : n ≤ 1048576) (w : World) (h : RowV b (n * 4) (FCopy E) w) :
    Calls Try.prog 21 #[.slice (some ⟨b, 0, none⟩) n c, .int .i64 (k : Int), .string body] w fun e w' => e = .returned (.slice (some ⟨b, 0, none⟩) n c) ∧ w' = w.setCell ⟨b, k * 4 + 2, none⟩ (.string body) := by
  have cW := fun w' => within_any (k : Int) 0 ((n : Int) - 1) w'
  have hb : inB (k : Int) 0 ((n : Int) - 1) = true := by unfold inB; simp; omega
  rw [hb] at cW
  obtain ⟨y0, z0⟩ := h (k * 4 + 2) (by omega)
  have hki : (k : Int) < (n : Int) := by omega
  clear hb h
  go_enter Try.func21, Try.ntmps21
  go_wp2_with fail
  refine (cW _).mono ?_
  rintro e w1 ⟨rfl, rfl⟩
  clear cW
  go_wp2_with fail
  go_ret
  exact ⟨rfl, rfl⟩

set_option maxRecDepth 100000 in
set_option maxHeartbeats 2000000 in
theorem damaged_out (a : Option Addr) (n c : Nat) (at_ : Int) (hat : ¬ (0 ≤ at_ ∧ at_ < (n : Int))) (body : ByteArray) (hl : n ≤ 1048576) (w : World) :
    Calls Try.prog 21 #[.slice a n c, .int .i64 at_, .string body] w fun e w' => e = .returned (.slice none 0 0) ∧ w' = w := by
  have cW := fun w' => within_any at_ 0 ((n : Int) - 1) w'
  have hb : inB at_ 0 ((n : Int) - 1) = false := by unfold inB; simp; omega
  rw [hb] at cW
  clear hb hat
  go_enter Try.func21, Try.ntmps21
  go_wp2_with fail
  refine (cW _).mono ?_
  rintro e w1 ⟨rfl, rfl⟩
  clear cW
  go_wp2_with fail
  go_ret
  exact ⟨rfl, rfl⟩

end Go.Proofs.Ytcdpnofjahdieaa
