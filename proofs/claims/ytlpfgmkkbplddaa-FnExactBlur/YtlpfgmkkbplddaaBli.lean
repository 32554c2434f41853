/- Blur, the program. -/
import Derived.Test.YtlpfgmkkbplddaaSli
import Derived.Test.YtlpfgmkkbplddaaOff
namespace Go.Proofs.Ytlpfgmkkbplddaa
open Go.RowKit

/-- the sum of the products around place j -/
def bluU (W H : Int) (f kn : Nat → Int) (j : Int) (m : Nat) : Int := vis W H j (offF 1 1) (fun i q v => v + kn i * f q.toNat) 0 m
def bluS (W H : Int) (f kn : Nat → Int) (s : Nat) (j : Nat) : Int := bluU W H f kn j 9 / 2 ^ s
def bluA (W H : Int) (n : Nat) (f : Nat → Int) (m : Nat) (kn : Nat → Int) (s : Int) : Bool := okB W H n f && (decide (m = 9) && (alW kn (-1000) 1000 m && inB s 0 16))
def bluB (W H : Int) (n : Nat) (f : Nat → Int) (m : Nat) (kn : Nat → Int) (s : Int) : Bool := bluA W H n f m kn s && allB (bluS W H f kn s.toNat) n

theorem alW_bd {f : Nat → Int} {lo hi : Int} {n : Nat} (h : alW f lo hi n = true) : ∀ k, k < n → lo ≤ f k ∧ f k ≤ hi := fun k hk => by
  have := alW_at h hk
  unfold inB at this
  simpa using this
theorem prod_bd {a b : Int} (ha : -1000 ≤ a ∧ a ≤ 1000) (hb : -1000000000 ≤ b ∧ b ≤ 1000000000) : -1000000000000 ≤ a * b ∧ a * b ≤ 1000000000000 := by
  have := natb (a := a) (b := b) (P := 1000) (Q := 1000000000) (by omega) (by omega)
  omega
theorem bluU_bd {W H : Int} {n : Nat} {f kn : Nat → Int} (hn : (n : Int) = W * H) (hf : ∀ k, k < n → -1000000000 ≤ f k ∧ f k ≤ 1000000000) (hk : ∀ k, k < 9 → -1000 ≤ kn k ∧ kn k ≤ 1000) (p : Int) (m : Nat) (hm : m ≤ 9) : -1000000000000 * (m : Int) ≤ bluU W H f kn p m ∧ bluU W H f kn p m ≤ 1000000000000 * (m : Int) := by
  unfold bluU
  refine vis_ind (P := fun k v => -1000000000000 * (k : Int) ≤ v ∧ v ≤ 1000000000000 * (k : Int)) (by omega) ?_ (fun k v _ _ h => by omega)
  intro k v hkm hq hv
  obtain ⟨q0, q1⟩ := place_lt hq hn
  have := prod_bd (hk k (by omega)) (bd_at hf q0 q1)
  generalize kn k * f (Int.toNat _) = z at *
  omega

set_option maxRecDepth 100000 in
theorem bluVis_fn : ∀ ar w, Sem.run Try.prog (callFunc 98 ar) w = .ok (.enter 98 ar) w := fun _ _ => rfl
set_option maxRecDepth 100000 in
theorem bluPix_fn : ∀ ar w, Sem.run Try.prog (callFunc 97 ar) w = .ok (.enter 97 ar) w := fun _ _ => rfl

set_option maxRecDepth 100000 in
set_option maxHeartbeats 1000000 in
theorem bluVis_any (W H : Int) (a : Option Addr) (n cap : Nat) (f : Nat → Int) (ak : Option Addr) (capk : Nat) (kn : Nat → Int) (k : Nat) (q v : Int) (hk : k < 9) (h0 : 0 ≤ q) (h1 : q < n) (c bp bk : Nat) (w : World) (hpr : -1000000000000 ≤ kn k * f q.toNat ∧ kn k * f q.toNat ≤ 1000000000000) (hv : -9000000000000 ≤ v ∧ v ≤ 9000000000000)
    (hz : Bx c [.int .i64 v] w) (hs : Bx bk [.slice ak 9 capk] w) (hb : Bx bp [.int .i64 W, .int .i64 H, .slice a n cap] w) (hx : Px a n f w) (hy : Px ak 9 kn w) :
    Calls Try.prog 98 #[.int .i64 k, .int .i64 q, .pointer (some ⟨c, 0, none⟩), .pointer (some ⟨bk, 0, none⟩), .pointer (some ⟨bp, 0, none⟩)] w fun e w' => e = .returned (.tuple #[]) ∧ KpS (· = c) w w' ∧ Bx c [.int .i64 (v + kn k * f q.toNat)] w' := by
  obtain ⟨b, off, rfl, hy1⟩ := hx.at' h0 h1
  obtain ⟨b', off', rfl, hy2⟩ := hy.at hk
  obtain ⟨z0, z1⟩ := hz 0 _ rfl
  have s0 := (hs 0 _ rfl).1
  have p2 := (hb 2 _ rfl).1
  obtain ⟨a1, a2⟩ := hpr
  obtain ⟨a5, a6⟩ := hv
  have hk9 : (k : Int) < (9 : Nat) := by omega
  generalize f q.toNat = y at *
  generalize kn k = u at *
  obtain ⟨P, hP⟩ : ∃ P, u * y = P := ⟨_, rfl⟩
  rw [hP] at a1 a2 ⊢
  have e1 : IntKind.i64.wrap (u * y) = P := by rw [hP, IntKind.wrap_i64]; omega
  obtain ⟨V, hV⟩ : ∃ V, v + P = V := ⟨_, rfl⟩
  have e2 : IntKind.i64.wrap (v + P) = V := by rw [hV, IntKind.wrap_i64]; omega
  rw [hV]
  have HZ := hide (hz.set 0 (.int .i64 V))
  have HK := hide ((KpS.refl (· = c) w).setCell (a := ⟨c, 0, none⟩) rfl (.int .i64 V))
  clear hx hz hb hs hy hP hV a1 a2 a5 a6
  go_enter Try.func98, Try.ntmps98
  go_wp2_with fail
  go_region
  go_wp2_with fail
  go_end0
  exact ⟨rfl, HK.out.drew, HZ.out⟩

set_option maxRecDepth 100000 in
set_option maxHeartbeats 1000000 in
theorem bluPix_any (W H : Int) (p : Nat) (a : Option Addr) (n cap : Nat) (f : Nat → Int) (hn : (n : Int) = W * H) (hW : 1 ≤ W) (hW' : W ≤ 64) (hH : 1 ≤ H) (hH' : H ≤ 64) (hp' : p < 4096) (hf : ∀ k, k < n → -1000000000 ≤ f k ∧ f k ≤ 1000000000)
    (a2 : Option Addr) (cap2 : Nat) (ak : Option Addr) (capk : Nat) (kn : Nat → Int) (hkn : ∀ k, k < 9 → -1000 ≤ kn k ∧ kn k ≤ 1000) (s : Nat) (hs : s ≤ 16) (bp bq bk bs : Nat) (w : World)
    (hb : Bx bp [.int .i64 W, .int .i64 H, .slice a n cap] w) (hq : Bx bq [.slice a2 9 cap2] w) (hkb : Bx bk [.slice ak 9 capk] w) (hsb : Bx bs [.int .i64 s] w) (hx : Px a n f w) (hy : Px a2 (9 * 2) (offF 1 1) w) (hz : Px ak 9 kn w) :
    Calls Try.prog 97 #[.int .i64 p, .pointer (some ⟨bp, 0, none⟩), .pointer (some ⟨bq, 0, none⟩), .pointer (some ⟨bk, 0, none⟩), .pointer (some ⟨bs, 0, none⟩)] w fun e w' => e = .returned (.int .i64 (bluS W H f kn s p)) ∧ Below w.heap.size w w' := by
  have hbp : bp < w.heap.size := World.block_lt_of_cell? w ⟨bp, 0, none⟩ (hb 0 _ rfl).1
  have hbq : bq < w.heap.size := World.block_lt_of_cell? w ⟨bq, 0, none⟩ (hq 0 _ rfl).1
  have hbk : bk < w.heap.size := World.block_lt_of_cell? w ⟨bk, 0, none⟩ (hkb 0 _ rfl).1
  have hbs : bs < w.heap.size := World.block_lt_of_cell? w ⟨bs, 0, none⟩ (hsb 0 _ rfl).1
  have hw1 := bnew w (.cells #[.int .i64 0] 2)
  have h1 : ∀ wr, KpS (· = w.heap.size) (w.alloc (.cells #[.int .i64 0] 2)) wr → Bx bp [.int .i64 W, .int .i64 H, .slice a n cap] wr ∧ Bx bk [.slice ak 9 capk] wr ∧ Bx bs [.int .i64 s] wr ∧ Px a n f wr ∧ Px ak 9 kn wr := by
    intro wr hk
    refine ⟨hk.bx (by show bp ≠ _; omega) (by simp; omega) (hb.below hw1 hbp), hk.bx (by show bk ≠ _; omega) (by simp; omega) (hkb.below hw1 hbk), hk.bx (by show bs ≠ _; omega) (by simp; omega) (hsb.below hw1 hbs), ?_, ?_⟩
    · by_cases h0 : n = 0
      · exact .inl h0
      · exact hk.px (fun b off e => hx.block_ne (Nat.le_refl _) (by omega) b off e) (hx.below hw1)
    · exact hk.px (fun b off e => hz.block_ne (Nat.le_refl _) (by omega) b off e) (hz.below hw1)
  have cV := visitFold_any W H p a2 9 cap2 (offF 1 1) (by omega) hW hW' hH hH' (by omega) (by omega) (offF_bd 1 1 (by omega) (by omega)) _ bluVis_fn #[.pointer (some ⟨w.heap.size, 0, none⟩), .pointer (some ⟨bk, 0, none⟩), .pointer (some ⟨bp, 0, none⟩)] (fun i q v => v + kn i * f q.toNat) 0 w.heap.size (w.alloc (.cells #[.int .i64 0] 2)) (by simp)
    (Bx.new [.int .i64 0] 2 w) (hy.below hw1) (fun b off h0 e => hy.block_ne (Nat.le_refl _) (by omega) b off e)
    (fun k wr hk9 hq hk hbx => by
      obtain ⟨q0, q1⟩ := place_lt hq hn
      have hvb := bluU_bd hn hf hkn p k (by omega)
      exact bluVis_any W H a n cap f ak capk kn k _ _ hk9 q0 q1 w.heap.size bp bk wr (prod_bd (hkn k hk9) (bd_at hf q0 q1)) (by unfold bluU at hvb; omega) hbx (h1 wr hk).2.1 (h1 wr hk).1 (h1 wr hk).2.2.2.1 (h1 wr hk).2.2.2.2)
  have HS1 := hide (fun wr hk => ((h1 wr hk).2.2.1 0 _ rfl).1)
  have hvb := bluU_bd hn hf hkn p 9 (by omega)
  obtain ⟨p0, p1, p2⟩ : w.cell? ⟨bp, 0, none⟩ = some (.int .i64 W) ∧ w.cell? ⟨bp, 1, none⟩ = some (.int .i64 H) ∧ w.cell? ⟨bp, 2, none⟩ = some (.slice a n cap) := ⟨(hb 0 _ rfl).1, (hb 1 _ rfl).1, (hb 2 _ rfl).1⟩
  have q0 := (hq 0 _ rfl).1
  clear hb hq hx hy h1 hw1 hz hkb hsb hf hkn hn
  unfold bluS
  unfold bluU at hvb ⊢
  generalize vis W H p (offF 1 1) (fun i q v => v + kn i * f q.toNat) 0 9 = R at *
  go_enter Try.func97, Try.ntmps97
  go_wp2_with fail
  refine cV.mono ?_
  rintro e w2 ⟨rfl, hk, hbx⟩
  have r0 := (hbx 0 _ rfl).1
  have r1 := HS1.out w2 hk
  have HB : Hid (Below w.heap.size w w2) := (bnew w _).trans (hk.below (fun b h => by subst h; exact Nat.le_refl _) (by simp))
  clear hk hbx cV HS1
  go_wp2_with fail
  go_ret
  exact ⟨rfl, HB.out⟩

end Go.Proofs.Ytlpfgmkkbplddaa
