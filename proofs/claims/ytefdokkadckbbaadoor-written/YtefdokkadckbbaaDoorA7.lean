/- The reference's Well. -/
import Derived.Test.YtefdokkadckbbaaDoorA6
namespace Go.Proofs.YtefdokkadckbbaaDoor
open Go.RowKit
set_option maxRecDepth 100000

theorem says_num {nm tg : ByteArray} {ttl num : Int} (h : ¬ (0 ≤ num ∧ num ≤ 255)) : saysOk ⟨nm, 1, ttl, num, tg⟩ = false := by
  unfold saysOk; rw [if_pos rfl]; rw [decide_eq_false h]; rfl

end Go.Proofs.YtefdokkadckbbaaDoor
