/- encoded: one step of a script that encodes. -/
import Derived.Test.YtefdokkadckbbaaGreatDoorD3
import Derived.Test.YtefdokkadckbbaaGreatDoorC5
namespace Go.Proofs.YtefdokkadckbbaaGreatDoor
open Go.RowKit
set_option maxRecDepth 100000

theorem rEncode_any (m : Msg) (va vs vm : Value) (w : World) (hS : SmallM m) (ha : RecSl w va m.answer) (hs : RecSl w vs m.servers) (hm : RecSl w vm m.more) :
    Calls Tryz.prog 124 #[.agg #[.int .i64 m.id, .bool m.reply, .int .i64 m.code, .string m.name, .int .i64 m.ty, va, vs, vm]] w fun e w' => e = .returned (.tuple #[.string (encS m), .int .i64 (encE m)]) ∧ Below w.heap.size w w' := by
  cases hok : msgOk m with
  | true => exact rEncode_yes m va vs vm w hS ha hs hm hok
  | false => exact rEncode_no m va vs vm w hS ha hs hm hok

theorem num_any (n : Int) (w : World) : Calls Tryz.prog 74 #[.int .i64 n] w fun e w' => e = .returned (.int .i64 n) ∧ w' = w := by
  go_enter Tryz.func74, Tryz.ntmps74
  go_wp2
  go_ret
  exact ⟨rfl, rfl⟩

/-- The two boxes of 'encoded' as they stand in a world: the message, and the one that is handed over. -/
def Boxes (b : Nat) (m : Msg) (v0 v1 v2 u0 u1 u2 : Value) (W : World) : Prop :=
  W.heap[b]? = some (.cells #[.int .i64 m.id, .bool m.reply, .int .i64 m.code, .string m.name, .int .i64 m.ty, v0, v1, v2] 27 (0, 0)) ∧
  W.heap[b + 1]? = some (.cells #[.int .i64 m.id, .bool m.reply, .int .i64 m.code, .string m.name, .int .i64 m.ty, u0, u1, u2] 27 (0, 0))
theorem Boxes.below {b : Nat} {m : Msg} {v0 v1 v2 u0 u1 u2 : Value} {W W' : World} (h : Boxes b m v0 v1 v2 u0 u1 u2 W) (hb : Below W.heap.size W W') : Boxes b m v0 v1 v2 u0 u1 u2 W' := by
  refine ⟨?_, ?_⟩
  · rw [hb.block b (Array.getElem?_eq_some_iff.1 h.1).1]; exact h.1
  · rw [hb.block (b + 1) (Array.getElem?_eq_some_iff.1 h.2).1]; exact h.2
theorem Boxes.lt {b : Nat} {m : Msg} {v0 v1 v2 u0 u1 u2 : Value} {W : World} (h : Boxes b m v0 v1 v2 u0 u1 u2 W) : b + 1 < W.heap.size := (Array.getElem?_eq_some_iff.1 h.2).1
theorem Boxes.set0 {b : Nat} {m : Msg} {v0 v1 v2 u0 u1 u2 : Value} {W : World} (h : Boxes b m v0 v1 v2 u0 u1 u2 W) (u : Value) : Boxes b m v0 v1 v2 u u1 u2 (W.setCell ⟨b + 1, 5, none⟩ u) := by
  refine ⟨?_, ?_⟩
  · rw [Below.heap_setCell W ⟨b + 1, 5, none⟩ u b (by simp)]; exact h.1
  · rw [heap_setCell_same W (b + 1) 5 _ 27 u h.2]; rfl
theorem Boxes.set1 {b : Nat} {m : Msg} {v0 v1 v2 u0 u1 u2 : Value} {W : World} (h : Boxes b m v0 v1 v2 u0 u1 u2 W) (u : Value) : Boxes b m v0 v1 v2 u0 u u2 (W.setCell ⟨b + 1, 6, none⟩ u) := by
  refine ⟨?_, ?_⟩
  · rw [Below.heap_setCell W ⟨b + 1, 6, none⟩ u b (by simp)]; exact h.1
  · rw [heap_setCell_same W (b + 1) 6 _ 27 u h.2]; rfl
theorem Boxes.set2 {b : Nat} {m : Msg} {v0 v1 v2 u0 u1 u2 : Value} {W : World} (h : Boxes b m v0 v1 v2 u0 u1 u2 W) (u : Value) : Boxes b m v0 v1 v2 u0 u1 u (W.setCell ⟨b + 1, 7, none⟩ u) := by
  refine ⟨?_, ?_⟩
  · rw [Below.heap_setCell W ⟨b + 1, 7, none⟩ u b (by simp)]; exact h.1
  · rw [heap_setCell_same W (b + 1) 7 _ 27 u h.2]; rfl
theorem Boxes.cells {b : Nat} {m : Msg} {v0 v1 v2 u0 u1 u2 : Value} {W : World} (h : Boxes b m v0 v1 v2 u0 u1 u2 W) :
    W.cell? ⟨b, 5, none⟩ = some v0 ∧ W.cell? ⟨b, 6, none⟩ = some v1 ∧ W.cell? ⟨b, 7, none⟩ = some v2 ∧ W.cell? ⟨b + 1, 5, none⟩ = some u0 ∧ W.cell? ⟨b + 1, 6, none⟩ = some u1 ∧ W.cell? ⟨b + 1, 7, none⟩ = some u2 ∧
    W.frozen? ⟨b + 1, 5, none⟩ = false ∧ W.frozen? ⟨b + 1, 6, none⟩ = false ∧ W.frozen? ⟨b + 1, 7, none⟩ = false := by
  refine ⟨?_, ?_, ?_, ?_, ?_, ?_, ?_, ?_, ?_⟩
  · rw [cell_blk h.1]; rfl
  · rw [cell_blk h.1]; rfl
  · rw [cell_blk h.1]; rfl
  · rw [cell_blk h.2]; rfl
  · rw [cell_blk h.2]; rfl
  · rw [cell_blk h.2]; rfl
  · exact frozen_of_row W (b + 1) 5 _ 27 h.2
  · exact frozen_of_row W (b + 1) 6 _ 27 h.2
  · exact frozen_of_row W (b + 1) 7 _ 27 h.2
theorem Boxes.plain {b : Nat} {m : Msg} {v0 v1 v2 u0 u1 u2 : Value} {W : World} (h : Boxes b m v0 v1 v2 u0 u1 u2 W) :
    W.cell? ⟨b, 0, none⟩ = some (.int .i64 m.id) ∧ W.cell? ⟨b, 1, none⟩ = some (.bool m.reply) ∧ W.cell? ⟨b, 2, none⟩ = some (.int .i64 m.code) ∧ W.cell? ⟨b, 3, none⟩ = some (.string m.name) ∧ W.cell? ⟨b, 4, none⟩ = some (.int .i64 m.ty) ∧
    W.cell? ⟨b + 1, 0, none⟩ = some (.int .i64 m.id) ∧ W.cell? ⟨b + 1, 1, none⟩ = some (.bool m.reply) ∧ W.cell? ⟨b + 1, 2, none⟩ = some (.int .i64 m.code) ∧ W.cell? ⟨b + 1, 3, none⟩ = some (.string m.name) ∧ W.cell? ⟨b + 1, 4, none⟩ = some (.int .i64 m.ty) := by
  refine ⟨?_, ?_, ?_, ?_, ?_, ?_, ?_, ?_, ?_, ?_⟩
  all_goals first | (rw [cell_blk h.1]; rfl) | (rw [cell_blk h.2]; rfl)

/-- A message's lists are short. -/
def LenM (m : Msg) : Prop := m.answer.length ≤ 1048576 ∧ m.servers.length ≤ 1048576 ∧ m.more.length ≤ 1048576

set_option maxHeartbeats 4000000 in
theorem encoded_any (m : Msg) (a0 a1 a2 : Option Addr) (c0 c1 c2 : Nat) (w : World) (hG : Good w) (hS : SmallM m) (hN : LenM m)
    (n0 : a0 = none → m.answer = [] ∧ c0 = 0) (n1 : a1 = none → m.servers = [] ∧ c1 = 0) (n2 : a2 = none → m.more = [] ∧ c2 = 0)
    (r0 : RecSl w (.slice a0 m.answer.length c0) m.answer) (r1 : RecSl w (.slice a1 m.servers.length c1) m.servers) (r2 : RecSl w (.slice a2 m.more.length c2) m.more) :
    Calls Tryz.prog 75 #[.agg #[.int .i64 m.id, .bool m.reply, .int .i64 m.code, .string m.name, .int .i64 m.ty, .slice a0 m.answer.length c0, .slice a1 m.servers.length c1, .slice a2 m.more.length c2]] w fun e w' => e = .returned (.bool true) ∧ Below w.heap.size w w' := by
  obtain ⟨l0, l1, l2⟩ := hN
  obtain ⟨O, hO⟩ : ∃ O, O = Obj.cells #[.int .i64 m.id, .bool m.reply, .int .i64 m.code, .string m.name, .int .i64 m.ty, .slice a0 m.answer.length c0, .slice a1 m.servers.length c1, .slice a2 m.more.length c2] 27 := ⟨_, rfl⟩
  obtain ⟨W0, hW0⟩ : ∃ W0, W0 = (w.alloc O).alloc O := ⟨_, rfl⟩
  have hB0 : Below w.heap.size w W0 := by rw [hW0]; exact ((Below.refl _ _).alloc (Nat.le_refl _) O).alloc (by simp) O
  have B0 : Boxes w.heap.size m (.slice a0 m.answer.length c0) (.slice a1 m.servers.length c1) (.slice a2 m.more.length c2) (.slice a0 m.answer.length c0) (.slice a1 m.servers.length c1) (.slice a2 m.more.length c2) W0 := by
    rw [hW0]
    refine ⟨?_, ?_⟩
    · rw [Below.heap_alloc (w.alloc O) O w.heap.size (by simp), heap_alloc_new, hO]
    · have := heap_alloc_new (w.alloc O) O
      rw [World.size_alloc] at this
      rw [this, hO]
  have HW : Hid ((w.alloc (Obj.cells #[.int .i64 m.id, .bool m.reply, .int .i64 m.code, .string m.name, .int .i64 m.ty, .slice a0 m.answer.length c0, .slice a1 m.servers.length c1, .slice a2 m.more.length c2] 27)).alloc (Obj.cells #[.int .i64 m.id, .bool m.reply, .int .i64 m.code, .string m.name, .int .i64 m.ty, .slice a0 m.answer.length c0, .slice a1 m.servers.length c1, .slice a2 m.more.length c2] 27) = W0) := by rw [hW0, hO]; rfl
  clear hW0 hO
  have N0 : Hid (a0 = none → m.answer = [] ∧ c0 = 0) := n0
  have N1 : Hid (a1 = none → m.servers = [] ∧ c1 = 0) := n1
  have N2 : Hid (a2 = none → m.more = [] ∧ c2 = 0) := n2
  clear n0 n1 n2
  have hlt0 : w.heap.size + 1 < W0.heap.size := B0.lt
  go_enter Tryz.func75, Tryz.ntmps75
  go_wp2_with fail
  rw [HW.out]
  refine (lent_any a0 c0 m.answer _ l0 N0.out (r0.below hB0)).mono ?_
  rintro e w1 ⟨b0, d0, rfl, L0, k1⟩
  have B1 := B0.below k1
  have hB1 := hB0.step (Nat.le_refl _) k1
  obtain ⟨x5, x6, x7, y5, y6, y7, f5, f6, f7⟩ := B1.cells
  go_wp2_with fail
  obtain ⟨W1, hW1⟩ : ∃ W1, W1 = w1.setCell ⟨w.heap.size + 1, 5, none⟩ (.slice b0 m.answer.length d0) := ⟨_, rfl⟩
  rw [← hW1]
  have B1' : Boxes w.heap.size m (.slice a0 m.answer.length c0) (.slice a1 m.servers.length c1) (.slice a2 m.more.length c2) (.slice b0 m.answer.length d0) (.slice a1 m.servers.length c1) (.slice a2 m.more.length c2) W1 := by rw [hW1]; exact B1.set0 _
  have L0' : Lnt (w.heap.size + 2) W1 a0 b0 d0 m.answer := by rw [hW1]; exact (L0.lower (by omega)).setCell (by omega) _ _
  have hB1' : Below w.heap.size w W1 := by rw [hW1]; exact hB1.setCell (by show w.heap.size ≤ w.heap.size + 1; omega) _
  clear hW1 x5 x6 x7 y5 y6 y7 f5 f6 f7 L0 hB1 B1 k1 w1 HW B0 hB0 hlt0 W0
  have hlt1 : w.heap.size + 1 < W1.heap.size := B1'.lt
  refine (lent_any a1 c1 m.servers _ l1 N1.out (r1.below hB1')).mono ?_
  rintro e w1 ⟨b1, d1, rfl, L1, k1⟩
  have B2 := B1'.below k1
  have hB2 := hB1'.step (Nat.le_refl _) k1
  have L02 := L0'.below k1
  obtain ⟨x5, x6, x7, y5, y6, y7, f5, f6, f7⟩ := B2.cells
  go_wp2_with fail
  obtain ⟨W2, hW2⟩ : ∃ W2, W2 = w1.setCell ⟨w.heap.size + 1, 6, none⟩ (.slice b1 m.servers.length d1) := ⟨_, rfl⟩
  rw [← hW2]
  have B2' : Boxes w.heap.size m (.slice a0 m.answer.length c0) (.slice a1 m.servers.length c1) (.slice a2 m.more.length c2) (.slice b0 m.answer.length d0) (.slice b1 m.servers.length d1) (.slice a2 m.more.length c2) W2 := by rw [hW2]; exact B2.set1 _
  have L02' : Lnt (w.heap.size + 2) W2 a0 b0 d0 m.answer := by rw [hW2]; exact L02.setCell (by omega) _ _
  have L12' : Lnt (w.heap.size + 2) W2 a1 b1 d1 m.servers := by rw [hW2]; exact (L1.lower (by omega)).setCell (by omega) _ _
  have hB2' : Below w.heap.size w W2 := by rw [hW2]; exact hB2.setCell (by show w.heap.size ≤ w.heap.size + 1; omega) _
  clear hW2 x5 x6 x7 y5 y6 y7 f5 f6 f7 L1 L02 hB2 B2 k1 w1 B1' hB1' L0' hlt1 W1
  have hlt2 : w.heap.size + 1 < W2.heap.size := B2'.lt
  refine (lent_any a2 c2 m.more _ l2 N2.out (r2.below hB2')).mono ?_
  rintro e w1 ⟨b2, d2, rfl, L2, k1⟩
  have B3 := B2'.below k1
  have hB3 := hB2'.step (Nat.le_refl _) k1
  have L03 := L02'.below k1
  have L13 := L12'.below k1
  obtain ⟨x5, x6, x7, y5, y6, y7, f5, f6, f7⟩ := B3.cells
  obtain ⟨p0, p1, p2, p3, p4, q0, q1, q2, q3, q4⟩ := B3.plain
  go_wp2_with fail
  obtain ⟨W3, hW3⟩ : ∃ W3, W3 = w1.setCell ⟨w.heap.size + 1, 7, none⟩ (.slice b2 m.more.length d2) := ⟨_, rfl⟩
  rw [← hW3]
  have B3' : Boxes w.heap.size m (.slice a0 m.answer.length c0) (.slice a1 m.servers.length c1) (.slice a2 m.more.length c2) (.slice b0 m.answer.length d0) (.slice b1 m.servers.length d1) (.slice b2 m.more.length d2) W3 := by rw [hW3]; exact B3.set2 _
  have L03' : Lnt (w.heap.size + 2) W3 a0 b0 d0 m.answer := by rw [hW3]; exact L03.setCell (by omega) _ _
  have L13' : Lnt (w.heap.size + 2) W3 a1 b1 d1 m.servers := by rw [hW3]; exact L13.setCell (by omega) _ _
  have L23' : Lnt (w.heap.size + 2) W3 a2 b2 d2 m.more := by rw [hW3]; exact (L2.lower (by omega)).setCell (by omega) _ _
  have hB3' : Below w.heap.size w W3 := by rw [hW3]; exact hB3.setCell (by show w.heap.size ≤ w.heap.size + 1; omega) _
  clear hW3 x5 x6 x7 y5 y6 y7 f5 f6 f7 p0 p1 p2 p3 p4 q0 q1 q2 q3 q4 L2 L03 L13 hB3 B3 k1 w1 B2' hB2' L02' L12' hlt2 W2
  have hG3 := hG.below hB3'
  refine (sEncode_any m _ _ _ _ hG3 hS L03'.recs L13'.recs L23'.recs).mono ?_
  rintro e w4 ⟨rfl, k4⟩
  have B4 := B3'.below k4
  have hB4 := hB3'.step (Nat.le_refl _) k4
  have L04 := L03'.below k4
  have L14 := L13'.below k4
  have L24 := L23'.below k4
  clear L03' L13' L23' B3' hB3' k4 hG3
  obtain ⟨x5, x6, x7, y5, y6, y7, f5, f6, f7⟩ := B4.cells
  obtain ⟨p0, p1, p2, p3, p4, q0, q1, q2, q3, q4⟩ := B4.plain
  go_wp2_with fail
  refine (rEncode_any m _ _ _ _ hS (r0.below hB4) (r1.below hB4) (r2.below hB4)).mono ?_
  rintro e w5 ⟨rfl, k5⟩
  have B5 := B4.below k5
  have hB5 := hB4.step (Nat.le_refl _) k5
  have L05 := L04.below k5
  have L15 := L14.below k5
  have L25 := L24.below k5
  clear x5 x6 x7 y5 y6 y7 f5 f6 f7 p0 p1 p2 p3 p4 q0 q1 q2 q3 q4 L04 L14 L24 B4 hB4 k5
  obtain ⟨x5, x6, x7, y5, y6, y7, f5, f6, f7⟩ := B5.cells
  go_wp2_with fail
  refine (still_any _ a0 b0 c0 d0 m.answer _ l0 N0.out (r0.below hB5) L05).mono ?_
  rintro e w6 ⟨rfl, k6⟩
  have B6 := B5.below k6
  have hB6 := hB5.step (Nat.le_refl _) k6
  have L16 := L15.below k6
  have L26 := L25.below k6
  clear x5 x6 x7 y5 y6 y7 f5 f6 f7 L05 L15 L25 B5 hB5 k6
  obtain ⟨x5, x6, x7, y5, y6, y7, f5, f6, f7⟩ := B6.cells
  go_wp2_with fail
  refine (still_any _ a1 b1 c1 d1 m.servers _ l1 N1.out (r1.below hB6) L16).mono ?_
  rintro e w7 ⟨rfl, k7⟩
  have B7 := B6.below k7
  have hB7 := hB6.step (Nat.le_refl _) k7
  have L27 := L26.below k7
  clear x5 x6 x7 y5 y6 y7 f5 f6 f7 L16 L26 B6 hB6 k7
  obtain ⟨x5, x6, x7, y5, y6, y7, f5, f6, f7⟩ := B7.cells
  go_wp2_with fail
  refine (still_any _ a2 b2 c2 d2 m.more _ l2 N2.out (r2.below hB7) L27).mono ?_
  rintro e w8 ⟨rfl, k8⟩
  have hB8 := hB7.step (Nat.le_refl _) k8
  clear x5 x6 x7 y5 y6 y7 f5 f6 f7 L27 B7 hB7 k8
  go_wp2_with (go_at_call 74; refine (num_any _ _).mono ?_; rintro e w' ⟨rfl, rfl⟩)
  go_ret
  exact ⟨rfl, hB8⟩
end Go.Proofs.YtefdokkadckbbaaGreatDoor
