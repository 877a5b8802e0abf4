/- wire.isMessage. -/
import Derived.Test.YtefdokkadckbbaaGreatDoorB3
namespace Go.Proofs.YtefdokkadckbbaaGreatDoor
open Go.RowKit
set_option maxRecDepth 100000

theorem bt_true {a n b : Int} (h : (decide (a ≤ n) && decide (n ≤ b)) = true) : decide (a ≤ n ∧ n ≤ b) = true := by simpa using h
theorem bt_false {a n b : Int} (h : (decide (a ≤ n) && decide (n ≤ b)) = false) : decide (a ≤ n ∧ n ≤ b) = false := by simpa using h

/-- What a message's texts may weigh. -/
def SmallM (m : Msg) : Prop := m.name.size ≤ 1048576 ∧ Small m.answer ∧ Small m.servers ∧ Small m.more

theorem _root_.Go.RowKit.Below.step {B : Nat} {w w1 w2 : World} (h : Below B w w1) (hB : B ≤ w.heap.size) (h2 : Below w1.heap.size w1 w2) : Below B w w2 := h.trans (h2.mono (Nat.le_trans hB h.size))

set_option maxHeartbeats 2000000 in
theorem isMessage_any (m : Msg) (va vs vm : Value) (w : World) (hG : Good w) (hS : SmallM m) (ha : RecSl w va m.answer) (hs : RecSl w vs m.servers) (hm : RecSl w vm m.more) :
    Calls Tryz.prog 133 #[.agg #[.int .i64 m.id, .bool m.reply, .int .i64 m.code, .string m.name, .int .i64 m.ty, va, vs, vm]] w fun e w' => e = .returned (.bool (msgOk m)) ∧ Below w.heap.size w w' := by
  obtain ⟨aa, ca, rfl, hra⟩ := ha
  obtain ⟨ab, cs, rfl, hrs⟩ := hs
  obtain ⟨am, cm, rfl, hrm⟩ := hm
  have hA : RecSl w (.slice aa m.answer.length ca) m.answer := ⟨aa, ca, rfl, hra⟩
  have hSv : RecSl w (.slice ab m.servers.length cs) m.servers := ⟨ab, cs, rfl, hrs⟩
  have hM : RecSl w (.slice am m.more.length cm) m.more := ⟨am, cm, rfl, hrm⟩
  clear hra hrs hrm
  have hG' := hG.alloc (.cells #[.int .i64 m.id, .bool m.reply, .int .i64 m.code, .string m.name, .int .i64 m.ty, .slice aa m.answer.length ca, .slice ab m.servers.length cs, .slice am m.more.length cm] 27)
  have hB := (Below.refl w.heap.size w).alloc (Nat.le_refl _) (.cells #[.int .i64 m.id, .bool m.reply, .int .i64 m.code, .string m.name, .int .i64 m.ty, .slice aa m.answer.length ca, .slice ab m.servers.length cs, .slice am m.more.length cm] 27)
  obtain ⟨z0, z1, z2, z3⟩ := hS
  cases hi : (decide (0 ≤ m.id) && decide (m.id ≤ 65535)) with
  | false =>
    go_enter Tryz.func133, Tryz.ntmps133
    go_wp2_with (go_at_call 106; refine (between_any _ _ _ _).mono ?_; rw [hi]; rintro e w' ⟨rfl, rfl⟩)
    go_ret
    exact ⟨ret_bool (by unfold msgOk numsOk; rw [bt_false hi]; rfl), hB⟩
  | true =>
  cases hc : (decide (0 ≤ m.code) && decide (m.code ≤ 3)) with
  | false =>
    go_enter Tryz.func133, Tryz.ntmps133
    go_wp2_with fail
    refine (between_any _ _ _ _).mono ?_
    rw [hi]; rintro e w' ⟨rfl, rfl⟩
    go_wp2_with (go_at_call 106; refine (between_any _ _ _ _).mono ?_; rw [hc]; rintro e w' ⟨rfl, rfl⟩)
    go_ret
    exact ⟨ret_bool (by unfold msgOk numsOk; rw [bt_false hc]; simp), hB⟩
  | true =>
  cases hn : nameOk (tl m.name) with
  | false =>
    go_enter Tryz.func133, Tryz.ntmps133
    go_wp2_with fail
    refine (between_any _ _ _ _).mono ?_
    rw [hi]; rintro e w' ⟨rfl, rfl⟩
    go_wp2_with fail
    refine (between_any _ _ _ _).mono ?_
    rw [hc]; rintro e w' ⟨rfl, rfl⟩
    go_wp2_with (go_at_call 173; refine (Valid_any _ _ hG' z0).mono ?_; rw [hn]; rintro e w1 ⟨rfl, hb1⟩)
    go_ret
    exact ⟨ret_bool (by unfold msgOk; rw [hn]; simp), hB.trans (hb1.mono (by simp))⟩
  | true =>
  go_enter Tryz.func133, Tryz.ntmps133
  go_wp2_with fail
  refine (between_any _ _ _ _).mono ?_
  rw [hi]; rintro e w' ⟨rfl, rfl⟩
  go_wp2_with fail
  refine (between_any _ _ _ _).mono ?_
  rw [hc]; rintro e w' ⟨rfl, rfl⟩
  go_wp2_with fail
  refine (Valid_any _ _ hG' z0).mono ?_
  rw [hn]
  rintro e w1 ⟨rfl, hb1⟩
  have hG1 := hG'.below hb1
  have hB1 := hB.trans (hb1.mono (by simp))
  obtain ⟨hc1, _⟩ := bcell hb1
  have hz1 : w.heap.size < w1.heap.size := by have := hb1.size; simp at this; omega
  cases ht : (decide (0 ≤ m.ty) && decide (m.ty ≤ 4)) with
  | false =>
    go_wp2_with (go_at_call 106; refine (between_any _ _ _ _).mono ?_; rw [ht]; rintro e w' ⟨rfl, rfl⟩)
    go_ret
    exact ⟨ret_bool (by unfold msgOk numsOk; rw [bt_false ht]; simp), hB1⟩
  | true =>
  go_wp2_with fail
  refine (between_any _ _ _ _).mono ?_
  rw [ht]; rintro e w' ⟨rfl, rfl⟩
  cases h1 : listOk m.answer with
  | false =>
    go_wp2_with (go_at_call 174; refine (isList_any _ m.answer _ hG1 z1 (hA.below hB1)).mono ?_; rw [h1]; rintro e w2 ⟨rfl, hb2⟩)
    go_ret
    exact ⟨ret_bool (by unfold msgOk; rw [h1]; simp), hB1.step (Nat.le_refl _) hb2⟩
  | true =>
  go_wp2_with fail
  refine (isList_any _ m.answer _ hG1 z1 (hA.below hB1)).mono ?_
  rw [h1]; rintro e w2 ⟨rfl, hb2⟩
  have hG2 := hG1.below hb2
  have hB2 := hB1.step (Nat.le_refl _) hb2
  obtain ⟨hc2, _⟩ := bcell hb2
  have hz2 : w.heap.size < w2.heap.size := Nat.lt_of_lt_of_le hz1 hb2.size
  cases h2 : listOk m.servers with
  | false =>
    go_wp2_with (go_at_call 174; refine (isList_any _ m.servers _ hG2 z2 (hSv.below hB2)).mono ?_; rw [h2]; rintro e w3 ⟨rfl, hb3⟩)
    go_ret
    exact ⟨ret_bool (by unfold msgOk; rw [h2]; simp), hB2.step (Nat.le_refl _) hb3⟩
  | true =>
  go_wp2_with fail
  refine (isList_any _ m.servers _ hG2 z2 (hSv.below hB2)).mono ?_
  rw [h2]; rintro e w3 ⟨rfl, hb3⟩
  have hG3 := hG2.below hb3
  have hB3 := hB2.step (Nat.le_refl _) hb3
  obtain ⟨hc3, _⟩ := bcell hb3
  go_wp2_with fail
  refine (isList_any _ m.more _ hG3 z3 (hM.below hB3)).mono ?_
  rintro e w4 ⟨rfl, hb4⟩
  go_wp2
  go_ret
  exact ⟨ret_bool (by unfold msgOk numsOk; rw [bt_true hi, bt_true hc, bt_true ht, hn, h1, h2]; rfl), hB3.step (Nat.le_refl _) hb4⟩
end Go.Proofs.YtefdokkadckbbaaGreatDoor
