/- The reference's Decode, whole. -/
import Derived.Test.YtefdokkadckbbaaGreatDoorI6
namespace Go.Proofs.YtefdokkadckbbaaGreatDoor
open Go.RowKit
set_option maxRecDepth 100000

set_option maxHeartbeats 4000000 in
theorem Decode_refn (s : ByteArray) (w : World) (l2 : 2 < s.size) (hq : ¬ s[2].toNat = 113) (hr : ¬ s[2].toNat = 114) : Calls Tryz.prog 126 #[.string s] w (DRes w (msgS (tl s))) := by
  obtain ⟨W0, hW0⟩ : ∃ W0, W0 = (w.alloc (Obj.cells #[.int .i64 0, .bool false, .int .i64 0, .string ⟨#[]⟩, .int .i64 0, .slice none 0 0, .slice none 0 0, .slice none 0 0] 27)).alloc (Obj.cells #[.int .i64 0, .bool false, .int .i64 0, .string ⟨#[]⟩, .int .i64 0, .slice none 0 0, .slice none 0 0, .slice none 0 0] 27) := ⟨_, rfl⟩
  have hz0 : W0.heap[w.heap.size]? = some (.cells #[.int .i64 0, .bool false, .int .i64 0, .string ⟨#[]⟩, .int .i64 0, .slice none 0 0, .slice none 0 0, .slice none 0 0] 27 (0, 0)) := by rw [hW0]; exact heap_alloc_old (by rw [heap_alloc_new]) _
  have hB0 : Below w.heap.size w W0 := by rw [hW0]; exact keepB (keepA _ _) (keepA _ _)
  have HW : Hid ((w.alloc (Obj.cells #[.int .i64 0, .bool false, .int .i64 0, .string ⟨#[]⟩, .int .i64 0, .slice none 0 0, .slice none 0 0, .slice none 0 0] 27)).alloc (Obj.cells #[.int .i64 0, .bool false, .int .i64 0, .string ⟨#[]⟩, .int .i64 0, .slice none 0 0, .slice none 0 0, .slice none 0 0] 27) = W0) := hW0.symm
  clear hW0
  by_cases h1000 : s.size ≤ 1000
  case neg =>
    have HN : Hid (msgS (tl s) = none) := msgS_long h1000
    go_enter Tryz.func126, Tryz.ntmps126
    go_wp2
    rw [HW.out]
    obtain ⟨x0, x1, x2, x3, x4, x5, x6, x7⟩ := fill8_cells hz0
    refine bodyPost_ret (v := .tuple #[zMsg, .int .i64 2]) (by simp [results, Tryz.results126, go_sem, zMsg, x0, x1, x2, x3, x4, x5, x6, x7]) rfl ?_
    rw [HN.out]
    exact ⟨hB0, rfl⟩
  case pos =>
  by_cases h4 : s.size < 4
  · have HN : Hid (msgS (tl s) = none) := msgS_short h4
    go_enter Tryz.func126, Tryz.ntmps126
    go_wp2
    rw [HW.out]
    obtain ⟨x0, x1, x2, x3, x4, x5, x6, x7⟩ := fill8_cells hz0
    refine bodyPost_ret (v := .tuple #[zMsg, .int .i64 2]) (by simp [results, Tryz.results126, go_sem, zMsg, x0, x1, x2, x3, x4, x5, x6, x7]) rfl ?_
    rw [HN.out]
    exact ⟨hB0, rfl⟩
  have j1 : ¬ (1000 : Int) < (s.size : Int) := by omega
  have j2 : ¬ (s.size : Int) < 4 := by omega
  obtain ⟨c2, hc2⟩ : ∃ c : Int, c = (s[2].toNat : Int) := ⟨_, rfl⟩
  have hx2 : ∀ w, (Instr.index 9 (.string s) (.int .i64 2)).run Tryz.prog w = .ok (.int .u8 c2) w := fun w => by rw [run_index_string w 9 s .i64 2 u9, dif_pos ⟨by omega, by omega⟩, hc2]; rfl
  have n1 : ¬ c2 = 113 := by omega
  have n2 : ¬ c2 = 114 := by omega
  have HN : Hid (msgS (tl s) = none) := by show _ = _; exact msgS_kind h1000 l2 (by rw [← hc2]; exact n1) (by rw [← hc2]; exact n2)
  clear hc2
  have n1b : (c2 == 113) = false := by simpa using n1
  have n2b : (c2 == 114) = false := by simpa using n2
  go_enter Tryz.func126, Tryz.ntmps126
  go_wp2
  rw [HW.out]
  obtain ⟨x0, x1, x2, x3, x4, x5, x6, x7⟩ := fill8_cells hz0
  refine bodyPost_ret (v := .tuple #[zMsg, .int .i64 2]) (by simp [results, Tryz.results126, go_sem, zMsg, x0, x1, x2, x3, x4, x5, x6, x7]) rfl ?_
  rw [HN.out]
  exact ⟨hB0, rfl⟩

theorem Decode_ref (s : ByteArray) (w : World) : Calls Tryz.prog 126 #[.string s] w (DRes w (msgS (tl s))) := by
  by_cases h2 : 2 < s.size
  case neg => exact Decode_refk s w false (fun h => absurd h h2)
  case pos =>
  by_cases hq : s[2].toNat = 113
  · exact Decode_refk s w false (fun _ => hq)
  by_cases hr : s[2].toNat = 114
  · exact Decode_refk s w true (fun _ => hr)
  exact Decode_refn s w h2 hq hr
end Go.Proofs.YtefdokkadckbbaaGreatDoor
