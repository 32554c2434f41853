/- Goals: when one is right. -/
import Derived.Test.YtfpeobkncileiaaLfs
import Derived.Deep.RegionHeld
import Derived.BigRegion
namespace Go.Proofs.Ytfpeobkncileiaa
open Go.RowKit

/-- is it a goal -/
def gokB (k l c : Int) : Bool := inB k 1 3 && (inB l 0 1000000000 && (inB c 0 1024 && (decide (k = 3) || decide (c = 0))))

theorem gok_impl (k l c : Int) : (inB k 1 3 && (inB l 0 1000000000 && inB c 0 (if k = 3 then 1024 else 0))) = gokB k l c := by
  unfold gokB inB
  by_cases hk : k = 3
  · subst hk; simp
  · rw [if_neg hk]
    by_cases hc : c = 0
    · subst hc; simp
    · have : (decide (0 ≤ c) && decide (c ≤ 0)) = false := by
        by_cases h : 0 ≤ c
        · have h2 : ¬ c ≤ 0 := by omega
          simp [h2]
        · simp [h]
      rw [this]
      simp [hk, hc]

end Go.Proofs.Ytfpeobkncileiaa
