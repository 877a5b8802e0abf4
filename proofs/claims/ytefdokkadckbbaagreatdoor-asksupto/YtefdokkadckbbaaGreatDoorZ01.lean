/- A1 -/
import Derived.Test.YtefdokkadckbbaaGreatDoorProg
import Derived.WalkKit
import Derived.WalkSpells
import Derived.WalkLawsBesides
namespace Go.Proofs.YtefdokkadckbbaaGreatDoor
open Go.RowKit
set_option maxRecDepth 100000
set_option maxHeartbeats 400000 in
theorem between_any (a n b : Int) (w : World) :
  Calls Tryz.prog 106 #[.int .i64 a, .int .i64 n, .int .i64 b] w fun e w' => e = .returned (.bool (decide (a ≤ n) && decide (n ≤ b))) ∧ w' = w := by
 by_cases h1 : a ≤ n
 ·by_cases h2 : n ≤ b
  ·go_enter Tryz.func106, Tryz.ntmps106
   go_wp2
   go_ret
   exact ⟨by simp [h1, h2], rfl⟩
  ·go_enter Tryz.func106, Tryz.ntmps106
   go_wp2
   go_ret
   exact ⟨by simp [h2], rfl⟩
 ·go_enter Tryz.func106, Tryz.ntmps106
  go_wp2
  go_ret
  exact ⟨by rw [decide_eq_false (by omega : ¬ a ≤ n)]; rfl, rfl⟩
set_option maxHeartbeats 400000 in
theorem isAddress_any (n : Int) (w : World) :
  Calls Tryz.prog 142 #[.int .i64 n] w fun e w' => e = .returned (.bool (decide (0 ≤ n) && decide (n ≤ 255))) ∧ w' = w := by
 go_enter Tryz.func142, Tryz.ntmps142
 go_wp2_with (go_at_call 106; refine (between_any _ _ _ _).mono ?_; rintro e w' ⟨rfl, rfl⟩)
 go_ret
 exact ⟨rfl, rfl⟩
def b1 (n : Int) : ByteArray := strOfNums [n % 256]
def b2 (n : Int) : ByteArray := strOfNums [n % 256, (n / 256) % 256]
theorem u137 : Tryz.prog.underlying 336 = some (.slice 5) := by kernel_rfl
theorem u5 : Tryz.prog.underlying 5 = some (.int .u8) := by kernel_rfl
theorem u9 : Tryz.prog.underlying 9 = some .string := by kernel_rfl
theorem conv1 (w : World) (x : Int) : (convert 336 9 (.slice (some ⟨w.heap.size, 0, none⟩) 1 1)).run Tryz.prog (w.alloc (.cells #[.int .u8 x] 5)) = .ok (.string (strOfNums [x])) (w.alloc (.cells #[.int .u8 x] 5)) := by
 refine run_convert_bytes_arg _ 336 5 u137 u5 _ 0 1 1 [x] rfl ?_ 9 u9
 intro i hi
 match i, hi with
 | 0, _ => simp
theorem conv2 (w : World) (x y : Int) : (convert 336 9 (.slice (some ⟨w.heap.size, 0, none⟩) 2 2)).run Tryz.prog (w.alloc (.cells #[.int .u8 x, .int .u8 y] 5)) = .ok (.string (strOfNums [x, y])) (w.alloc (.cells #[.int .u8 x, .int .u8 y] 5)) := by
 refine run_convert_bytes_arg _ 336 5 u137 u5 _ 0 2 2 [x, y] rfl ?_ 9 u9
 intro i hi
 match i, hi with
 | 0, _ => simp
 | 1, _ => simp
set_option maxHeartbeats 400000 in
theorem oneByte_any (n : Int) (w : World) :
  Calls Tryz.prog 177 #[.int .i64 n] w fun e w' => e = .returned (.string (b1 n)) ∧ Below w.heap.size w w' := by
 have hc := conv1 w
 go_enter Tryz.func177, Tryz.ntmps177
 go_wp2
 go_ret
 exact ⟨rfl, (Below.refl _ _).alloc (Nat.le_refl _) _⟩
set_option maxHeartbeats 400000 in
theorem twoBytes_any (n : Int) (w : World) :
  Calls Tryz.prog 176 #[.int .i64 n] w fun e w' => e = .returned (.string (b2 n)) ∧ Below w.heap.size w w' := by
 have hc := conv2 w
 go_enter Tryz.func176, Tryz.ntmps176
 go_wp2
 go_ret
 exact ⟨rfl, (Below.refl _ _).alloc (Nat.le_refl _) _⟩
set_option maxHeartbeats 400000 in
theorem kindOf_any (i : Int) (r : Bool) (c : Int) (nm : ByteArray) (t : Int) (a b m : Value) (w : World) :
  Calls Tryz.prog 178 #[.agg #[.int .i64 i, .bool r, .int .i64 c, .string nm, .int .i64 t, a, b, m]] w fun e w' => e = .returned (.int .i64 (if r then 114 else 113)) ∧ Below w.heap.size w w' := by
 cases r
 ·go_enter Tryz.func178, Tryz.ntmps178
  go_wp2
  go_ret
  exact ⟨rfl, (Below.refl _ _).alloc (Nat.le_refl _) _⟩
 ·go_enter Tryz.func178, Tryz.ntmps178
  go_wp2
  go_ret
  exact ⟨rfl, (Below.refl _ _).alloc (Nat.le_refl _) _⟩
end Go.Proofs.YtefdokkadckbbaaGreatDoor
