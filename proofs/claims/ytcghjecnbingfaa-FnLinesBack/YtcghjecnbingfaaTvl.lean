/- The sum of a list, as an iterator over its values gives it. -/
import Derived.Test.YtcghjecnbingfaaSml
import Derived.Test.YtcghjecnbingfaaLns
namespace Go.Proofs.Ytcghjecnbingfaa
open Go.RowKit

set_option maxRecDepth 100000 in
/-- the sum of a book -/
theorem total_values (a : Option Addr) (m cap : Nat) (d : Nat → Int) (h0 : m ≠ 0) (hl : m ≤ 1048576) (hd : ∀ k, k < m → -1000000000000 ≤ d k ∧ d k ≤ 1000000000000) (w : World) (Bs : Nat) (hc : w.cell? ⟨Bs, 0, none⟩ = some (.slice a m cap)) (px : Px a m d w) :
    Calls Try.prog 20 #[.func (.func 51) #[] #[.pointer (some ⟨Bs, 0, none⟩)]] w fun e w' => e = .returned (.int .i64 (Lnm.sm d m)) ∧ Below w.heap.size w w' := by
  have hblk : ∀ q : Addr, a = some q → q.block < w.heap.size := by
    intro q hq
    obtain ⟨b, off, ha, hlt⟩ := px.lt (by omega)
    rw [hq] at ha
    cases ha
    exact hlt
  have h2 := values_gv a m cap Bs d (· < w.heap.size) w hl hc px hblk
  have h3 := total_any 51 _ _ (· < w.heap.size) w h2 (enters_of Try.func51 (by kernel_rfl) rfl) (fun _ h => h)
  rw [sumW_sm (M := 1000000000000) (by omega) hl hd] at h3
  exact h3

end Go.Proofs.Ytcghjecnbingfaa
