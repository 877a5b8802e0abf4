/- Is it a record? The reference's Well; wire's saysWhatItMay and isRecord. -/
import Derived.Test.YtefdokkadckbbaaGreatDoorA5
namespace Go.Proofs.YtefdokkadckbbaaGreatDoor
open Go.RowKit
set_option maxRecDepth 100000

theorem recOk_name {r : Rec} (h : nameOk (tl r.name) = false) : recOk r = false := by unfold recOk; rw [h]; rfl
theorem recOk_ttl {r : Rec} (h : r.ttl < 1 ∨ 1000 < r.ttl) : recOk r = false := by unfold recOk; rw [decide_eq_false (by omega)]; simp
theorem recOk_says {r : Rec} (h : nameOk (tl r.name) = true) (h1 : ¬ r.ttl < 1) (h2 : ¬ 1000 < r.ttl) : recOk r = saysOk r := by unfold recOk; rw [h, decide_eq_true (by omega)]; rfl

theorem bcell {W w1 : World} (hb : Below W.heap.size W w1) : (∀ b o, b < W.heap.size → w1.cell? ⟨b, o, none⟩ = W.cell? ⟨b, o, none⟩) ∧ (∀ b o, b < W.heap.size → w1.frozen? ⟨b, o, none⟩ = W.frozen? ⟨b, o, none⟩) :=
  ⟨fun b _ h => hb.cell (p := ⟨b, _, none⟩) h, fun b _ h => hb.frozen (p := ⟨b, _, none⟩) h⟩

set_option maxHeartbeats 1000000 in
theorem says_any (r : Rec) (w : World) (hG : Good w) (ht : r.target.size ≤ 1048576) :
    Calls Tryz.prog 280 #[.agg #[.string r.name, .int .i64 r.ty, .int .i64 r.ttl, .int .i64 r.num, .string r.target]] w fun e w' => e = .returned (.bool (saysOk r)) ∧ Below w.heap.size w w' := by
  obtain ⟨nm, ty, ttl, num, tg⟩ := r
  have hG' := hG.alloc (.cells #[.string nm, .int .i64 ty, .int .i64 ttl, .int .i64 num, .string tg] 71)
  have hB := (Below.refl w.heap.size w).alloc (Nat.le_refl _) (.cells #[.string nm, .int .i64 ty, .int .i64 ttl, .int .i64 num, .string tg] 71)
  simp only at ht ⊢
  by_cases t1 : ty = 1
  · subst t1
    by_cases n0 : 0 ≤ num ∧ num ≤ 255
    · have hn : (decide (0 ≤ num) && decide (num ≤ 255)) = true := by simp [n0]
      go_enter Tryz.func280, Tryz.ntmps280
      go_wp2_with (go_at_call 142; refine (isAddress_any _ _).mono ?_; rw [hn]; rintro e w' ⟨rfl, rfl⟩)
      go_ret
      exact ⟨ret_bool (by simp [saysOk, n0, empty_iff]), hB⟩
    · have hn : (decide (0 ≤ num) && decide (num ≤ 255)) = false := by rw [Bool.and_eq_false_iff]; simp; omega
      go_enter Tryz.func280, Tryz.ntmps280
      go_wp2_with (go_at_call 142; refine (isAddress_any _ _).mono ?_; rw [hn]; rintro e w' ⟨rfl, rfl⟩)
      go_ret
      exact ⟨ret_bool (by simp [saysOk, n0]), hB⟩
  by_cases t2 : ty = 2
  · subst t2
    by_cases n0 : num = 0
    · subst n0
      go_enter Tryz.func280, Tryz.ntmps280
      go_wp2_with (go_at_call 173; refine (Valid_any _ _ hG' ht).mono ?_; rintro e w' ⟨rfl, hb⟩)
      go_ret
      exact ⟨ret_bool (by simp [saysOk]), hB.trans (hb.mono (by simp))⟩
    · go_enter Tryz.func280, Tryz.ntmps280
      go_wp2
      go_ret
      exact ⟨ret_bool (by simp [saysOk, n0]), hB⟩
  by_cases t3 : ty = 3
  · subst t3
    by_cases n0 : num = 0
    · subst n0
      go_enter Tryz.func280, Tryz.ntmps280
      go_wp2_with (go_at_call 173; refine (Valid_any _ _ hG' ht).mono ?_; rintro e w' ⟨rfl, hb⟩)
      go_ret
      exact ⟨ret_bool (by simp [saysOk]), hB.trans (hb.mono (by simp))⟩
    · go_enter Tryz.func280, Tryz.ntmps280
      go_wp2
      go_ret
      exact ⟨ret_bool (by simp [saysOk, n0]), hB⟩
  by_cases t4 : ty = 4
  · subst t4
    by_cases n0 : num = 0
    · subst n0
      go_enter Tryz.func280, Tryz.ntmps280
      go_wp2
      go_ret
      exact ⟨ret_bool (by simp [saysOk, empty_iff]), hB⟩
    · go_enter Tryz.func280, Tryz.ntmps280
      go_wp2
      go_ret
      exact ⟨ret_bool (by simp [saysOk, n0]), hB⟩
  go_enter Tryz.func280, Tryz.ntmps280
  go_wp2
  go_ret
  exact ⟨ret_bool (by simp [saysOk, t1, t2, t3, t4]), hB⟩

set_option maxHeartbeats 1000000 in
theorem isRecord_any (r : Rec) (w : World) (hG : Good w) (hn : r.name.size ≤ 1048576) (ht : r.target.size ≤ 1048576) :
    Calls Tryz.prog 238 #[.agg #[.string r.name, .int .i64 r.ty, .int .i64 r.ttl, .int .i64 r.num, .string r.target]] w fun e w' => e = .returned (.bool (recOk r)) ∧ Below w.heap.size w w' := by
  have hG' := hG.alloc (.cells #[.string r.name, .int .i64 r.ty, .int .i64 r.ttl, .int .i64 r.num, .string r.target] 71)
  have hB := (Below.refl w.heap.size w).alloc (Nat.le_refl _) (.cells #[.string r.name, .int .i64 r.ty, .int .i64 r.ttl, .int .i64 r.num, .string r.target] 71)
  cases hnm : nameOk (tl r.name) with
  | false =>
    go_enter Tryz.func238, Tryz.ntmps238
    go_wp2_with (go_at_call 173; refine (Valid_any _ _ hG' hn).mono ?_; rw [hnm]; rintro e w' ⟨rfl, hb⟩)
    go_ret
    exact ⟨ret_bool (recOk_name hnm).symm, hB.trans (hb.mono (by simp))⟩
  | true =>
    by_cases httl : 1 ≤ r.ttl ∧ r.ttl ≤ 1000
    · have hd : (decide (1 ≤ r.ttl) && decide (r.ttl ≤ 1000)) = true := by simp [httl]
      go_enter Tryz.func238, Tryz.ntmps238
      go_wp2_with fail
      refine (Valid_any _ _ hG' hn).mono ?_
      rw [hnm]
      rintro e w1 ⟨rfl, hb⟩
      have hG1 := hG'.below hb
      have hB1 := hB.trans (hb.mono (by simp))
      obtain ⟨hc, hf⟩ := bcell hb
      go_wp2_with fail
      refine (between_any _ _ _ _).mono ?_
      rw [hd]
      rintro e w' ⟨rfl, rfl⟩
      go_wp2_with fail
      refine (says_any r _ hG1 ht).mono ?_
      rintro e w2 ⟨rfl, hb2⟩
      go_wp2
      go_ret
      exact ⟨ret_bool (recOk_says hnm (by omega) (by omega)).symm, hB1.trans (hb2.mono hB1.size)⟩
    · have hd : (decide (1 ≤ r.ttl) && decide (r.ttl ≤ 1000)) = false := by rw [Bool.and_eq_false_iff]; simp; omega
      go_enter Tryz.func238, Tryz.ntmps238
      go_wp2_with fail
      refine (Valid_any _ _ hG' hn).mono ?_
      rw [hnm]
      rintro e w1 ⟨rfl, hb⟩
      have hB1 := hB.trans (hb.mono (by simp))
      obtain ⟨hc, hf⟩ := bcell hb
      go_wp2_with fail
      refine (between_any _ _ _ _).mono ?_
      rw [hd]
      rintro e w' ⟨rfl, rfl⟩
      go_wp2
      go_ret
      exact ⟨ret_bool (recOk_ttl (by omega)).symm, hB1⟩
end Go.Proofs.YtefdokkadckbbaaGreatDoor
