/- The law's own copies, comparisons and marks of Frame. -/
import Derived.Test.YtjdbiaoheoialaaHom
namespace Go.Proofs.Ytjdbiaoheoialaa
open Go.RowKit

abbrev vFrame (x0 : Int) (a0 : Option Addr) (n0 c0 : Nat) (a1 : Option Addr) (n1 c1 : Nat) : Value := .agg #[.slice a0 n0 c0, .slice a1 n1 c1, .int .i64 x0]
theorem Ow.row {b n : Nat} {f : Nat → Int} {w : World} (h : Ow (some ⟨b, 0, none⟩) b n f w) : Row b n f w := fun k hk => by
  rcases h with h | ⟨_, h⟩
  · omega
  · exact h k hk

end Go.Proofs.Ytjdbiaoheoialaa
