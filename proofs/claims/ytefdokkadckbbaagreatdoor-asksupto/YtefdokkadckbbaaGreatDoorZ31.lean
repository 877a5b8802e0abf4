/- T9 -/
import Derived.Test.YtefdokkadckbbaaGreatDoorZ21
namespace Go.Proofs.YtefdokkadckbbaaGreatDoor
open Go.RowKit Go.Shelf Go.MapKept Go.Maps
set_option maxRecDepth 100000
set_option maxHeartbeats 1000000 in
theorem target_none (tb g mp : Nat) (h : Value) (en tr pa mx now nid : Int) (ga : Option Addr) (gc : Nat) (w : World) (ht : tb < w.heap.size) (hgs : w.cell? ⟨tb, 9, none⟩ = some (.slice ga 1 gc)) :
  Calls Tryz.prog 187 #[.pointer (some ⟨tb, 0, none⟩), wV h en tr pa mx mp now nid, .pointer (some ⟨g, 0, none⟩), zoneV ⟨#[]⟩] w fun e w' => e = .returned (.tuple #[.string ⟨#[]⟩, .bool false]) ∧ Below w.heap.size w w' := by
 have n0 : tb ≠ w.heap.size := Nat.ne_of_lt ht
 have n1 : tb ≠ w.heap.size + 1 := by omega
 go_enter Tryz.func187, Tryz.ntmps187
 go_wp2
 refine wp_loop_rounds 1 ?_
 rw [rounds_succ]
 go_wp2
 refine bodyPost_ret (v := .tuple #[.string ⟨#[]⟩, .bool false]) (by simp [results, Tryz.results187, go_sem]) rfl ⟨rfl, ?_⟩
 exact ((Below.refl _ _).alloc (Nat.le_refl _) _).alloc (by simp) _
theorem end_start (h : Value) (en tr pa mx now nid : Int) (mp : Nat) (w : World) : ∃ X, ((w.alloc (.cells #[h, .int .i64 en, .int .i64 tr, .int .i64 pa, .int .i64 mx, .pointer (some ⟨mp, 0, none⟩), .int .i64 now, .int .i64 nid] 122)).alloc (.cells #[.int .i64 2, .slice none 0 0] 287)).alloc
   (.cells #[.bool false, .int .i64 0, .int .i64 0, .bool false, .int .i64 0, .string ⟨#[]⟩, .int .i64 0, .slice none 0 0, .slice none 0 0, .slice none 0 0] 178) = X ∧
  X.heap[w.heap.size]? = some (.cells #[h, .int .i64 en, .int .i64 tr, .int .i64 pa, .int .i64 mx, .pointer (some ⟨mp, 0, none⟩), .int .i64 now, .int .i64 nid] 122 (0, 0)) ∧ X.heap[w.heap.size + 1]? = some (.cells #[.int .i64 2, .slice none 0 0] 287 (0, 0)) ∧
  X.heap[w.heap.size + 1 + 1]? = some (.cells #[.bool false, .int .i64 0, .int .i64 0, .bool false, .int .i64 0, .string ⟨#[]⟩, .int .i64 0, .slice none 0 0, .slice none 0 0, .slice none 0 0] 178 (0, 0)) ∧ X.heap.size = w.heap.size + 3 ∧ Below w.heap.size w X := allocs3 w _ _ _
set_option maxHeartbeats 2000000 in
theorem end_failed (tb g : Nat) (num id : Int) (rp : Bool) (cd : Int) (qn : ByteArray) (qt : Int) (aa as_ am : Option Addr) (na ns nn ca cs cm : Nat) (ga : Option Addr) (gc : Nat) (sends : Int) (wn : ByteArray) (wt : Int) (wz : ByteArray) (at_ wi wa : Int) (h : Value) (en tr pa mx now nid : Int) (mp : Nat) (w : World)
  (ht : w.heap[tb]? = some (taskO num id rp cd qn qt (.slice aa na ca) (.slice as_ ns cs) (.slice am nn cm) (.slice ga 1 gc) sends wn wt wz at_ wi wa)) :
  Calls Tryz.prog 183 #[.pointer (some ⟨tb, 0, none⟩), wV h en tr pa mx mp now nid, .pointer (some ⟨g, 0, none⟩), .agg #[.int .i64 2, .slice none 0 0]] w fun e w' =>
   e = .returned (.tuple #[stepV true 0 id true 2 qn qt (.slice aa na ca) (.slice as_ ns cs) (.slice am nn cm), .bool true]) ∧ Below w.heap.size w w' := by
 obtain ⟨X, hX, x0, x1, x2, x3, x4⟩ := end_start h en tr pa mx now nid mp w
 have hlt : tb < w.heap.size := (Array.getElem?_eq_some_iff.1 ht).1
 have htX := (x4.block tb hlt).trans ht
 have q9 : X.cell? ⟨tb, 9, none⟩ = some (.slice ga 1 gc) := by rw [cell_blk htX]; rfl
 have w6 : X.cell? ⟨w.heap.size, 6, none⟩ = some (.int .i64 now) := by rw [cell_blk x0]; rfl
 have c0 : X.cell? ⟨w.heap.size + 1, 0, none⟩ = some (.int .i64 2) := by rw [cell_blk x1]; rfl
 go_enter Tryz.func183, Tryz.ntmps183
 go_wp2_with (go_at_call 245; refine (reply_none tb num id rp cd qn qt aa as_ am na ns nn ca cs cm (.slice ga 1 gc) sends wn wt wz at_ wi wa now 2 _ htX).mono ?_; rintro e w9 ⟨rfl, hb9⟩; have r2 := (hb9.block (w.heap.size + 1 + 1) (by omega)).trans x2; obtain ⟨r0, r1, r2', r3, r4, r5, r6, r7, r8, r9⟩ := cells10 r2; have rf : ∀ k, w9.frozen? ⟨w.heap.size + 1 + 1, k, none⟩ = false := fun k => frozen_of_row w9 _ k _ 178 r2)
 refine bodyPost_ret (v := .tuple #[stepV true 0 id true 2 qn qt (.slice aa na ca) (.slice as_ ns cs) (.slice am nn cm), .bool true]) (by simp [results, Tryz.results183, go_sem, r0, r1, r2', r3, r4, r5, r6, r7, r8, r9]) rfl ⟨rfl, ?_⟩
 have hB : Below w.heap.size w w9 := x4.trans (hb9.mono (by omega))
 have hle : w.heap.size ≤ w.heap.size + 1 + 1 := by omega
 exact (((((((((hB.set hle 0 _).set hle 1 _).set hle 2 _).set hle 3 _).set hle 4 _).set hle 5 _).set hle 6 _).set hle 7 _).set hle 8 _).set hle 9 _
end Go.Proofs.YtefdokkadckbbaaGreatDoor
