/- The closed facts of the rows of this program, one by one: together they are too much for one theorem. -/
import Derived.Test.YtefdokkadckbbaaGreatDoorLv
import Derived.Test.YtefdokkadckbbaaGreatDoorCards
namespace Go.Proofs.YtefdokkadckbbaaGreatDoor
set_option maxRecDepth 100000
theorem and_of {a b : Bool} (ha : a = true) (hb : b = true) : (a && b) = true := by rw [ha, hb]; rfl
theorem fa_laid : laidOutB Tryz.prog = true := by kernel_rfl
theorem fa_maps : mapsRowed Tryz.prog = true := by kernel_rfl
theorem fa_heard : Tryz.prog.stopsHeard = true := by kernel_rfl
theorem fa_keys : (false == Tryz.prog.plainKeys) = true := by kernel_rfl
theorem fa_stops : (Tryz.prog.stops == []) = true := by kernel_rfl
theorem fa_knobs : (Tryz.prog.stopKnobs == []) = true := by kernel_rfl
theorem fa_enter : Tryz.prog.mayEnter = true := by kernel_rfl
theorem fa_lifts (c : OpenClaim) (h : c.lifted = Rows.encodesUptoRow.lifted) : (c.lifted == Tryz.prog.liftsFinal) = true := by rw [h]; kernel_rfl
theorem fa_make (c : OpenClaim) (h : c.make = Rows.encodesUptoRow.make) : (Tryz.prog.make == some c.make) = true := by rw [h]; kernel_rfl
end Go.Proofs.YtefdokkadckbbaaGreatDoor
