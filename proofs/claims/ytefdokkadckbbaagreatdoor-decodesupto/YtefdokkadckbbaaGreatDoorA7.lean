/- The reference's Well. -/
import Derived.Test.YtefdokkadckbbaaGreatDoorA6
namespace Go.Proofs.YtefdokkadckbbaaGreatDoor
open Go.RowKit
set_option maxRecDepth 100000

theorem says_num {nm tg : ByteArray} {ttl num : Int} (h : ¬ (0 ≤ num ∧ num ≤ 255)) : saysOk ⟨nm, 1, ttl, num, tg⟩ = false := by
  unfold saysOk; rw [if_pos rfl]; rw [decide_eq_false h]; rfl

set_option maxHeartbeats 1000000 in
theorem Well_any (r : Rec) (w : World) (hn : r.name.size ≤ 1048576) (ht : r.target.size ≤ 1048576) :
    Calls Tryz.prog 230 #[.agg #[.string r.name, .int .i64 r.ty, .int .i64 r.ttl, .int .i64 r.num, .string r.target]] w fun e w' => e = .returned (.bool (recOk r)) ∧ Below w.heap.size w w' := by
  have hB := (Below.refl w.heap.size w).alloc (Nat.le_refl _) (.cells #[.string r.name, .int .i64 r.ty, .int .i64 r.ttl, .int .i64 r.num, .string r.target] 71)
  cases hnm : nameOk (tl r.name) with
  | false =>
    go_enter Tryz.func230, Tryz.ntmps230
    go_wp2_with (go_at_call 156; refine (Name_any _ _ hn).mono ?_; rw [hnm]; rintro e w' ⟨rfl, hb⟩)
    go_ret
    exact ⟨ret_bool (recOk_name hnm).symm, hB.trans (hb.mono (by simp))⟩
  | true =>
    by_cases httl : 1 ≤ r.ttl ∧ r.ttl ≤ 1000
    · have hsays := recOk_says hnm (by omega : ¬ r.ttl < 1) (by omega : ¬ 1000 < r.ttl)
      obtain ⟨nm, ty, ttl, num, tg⟩ := r
      simp only at hn ht hnm httl hB ⊢
      have HS : Hid (recOk ⟨nm, ty, ttl, num, tg⟩ = saysOk ⟨nm, ty, ttl, num, tg⟩) := hsays
      clear hsays
      go_enter Tryz.func230, Tryz.ntmps230
      go_wp2_with fail
      refine (Name_any _ _ hn).mono ?_
      rw [hnm]
      rintro e w1 ⟨rfl, hb⟩
      have hB1 := hB.trans (hb.mono (by simp))
      obtain ⟨hc, hf⟩ := bcell hb
      have hz : w.heap.size < w1.heap.size := by have := hb.size; simp at this; omega
      go_wp2_with fail
      refine (Name_any _ _ ht).mono ?_
      rintro e w2 ⟨rfl, hb2⟩
      have hB2 := hB1.trans (hb2.mono hB1.size)
      obtain ⟨hc2, hf2⟩ := bcell hb2
      by_cases t1 : ty = 1
      · subst t1
        by_cases n0 : 0 ≤ num
        · by_cases n1 : num ≤ 255
          · go_wp2
            go_ret
            exact ⟨ret_bool (by rw [HS.out]; simp [saysOk, n0, n1, empty_iff]), hB2⟩
          · go_wp2
            go_ret
            exact ⟨ret_bool (by rw [HS.out, says_num (by omega)]), hB2⟩
        · go_wp2
          go_ret
          exact ⟨ret_bool (by rw [HS.out, says_num (by omega)]), hB2⟩
      by_cases t2 : ty = 2
      · subst t2
        by_cases n0 : num = 0
        · subst n0
          go_wp2
          go_ret
          exact ⟨ret_bool (by rw [HS.out]; simp [saysOk]), hB2⟩
        · go_wp2
          go_ret
          exact ⟨ret_bool (by rw [HS.out]; simp [saysOk, n0]), hB2⟩
      by_cases t3 : ty = 3
      · subst t3
        by_cases n0 : num = 0
        · subst n0
          go_wp2
          go_ret
          exact ⟨ret_bool (by rw [HS.out]; simp [saysOk]), hB2⟩
        · go_wp2
          go_ret
          exact ⟨ret_bool (by rw [HS.out]; simp [saysOk, n0]), hB2⟩
      by_cases t4 : ty = 4
      · subst t4
        by_cases n0 : num = 0
        · subst n0
          go_wp2
          go_ret
          exact ⟨ret_bool (by rw [HS.out]; simp [saysOk, empty_iff]), hB2⟩
        · go_wp2
          go_ret
          exact ⟨ret_bool (by rw [HS.out]; simp [saysOk, n0]), hB2⟩
      go_wp2
      go_ret
      exact ⟨ret_bool (by rw [HS.out]; simp [saysOk, t1, t2, t3, t4]), hB2⟩
    · by_cases h1 : r.ttl < 1
      · go_enter Tryz.func230, Tryz.ntmps230
        go_wp2_with fail
        refine (Name_any _ _ hn).mono ?_
        rw [hnm]
        rintro e w1 ⟨rfl, hb⟩
        have hB1 := hB.trans (hb.mono (by simp))
        obtain ⟨hc, hf⟩ := bcell hb
        go_wp2
        go_ret
        exact ⟨ret_bool (recOk_ttl (by omega)).symm, hB1⟩
      · have h2 : 1000 < r.ttl := by omega
        go_enter Tryz.func230, Tryz.ntmps230
        go_wp2_with fail
        refine (Name_any _ _ hn).mono ?_
        rw [hnm]
        rintro e w1 ⟨rfl, hb⟩
        have hB1 := hB.trans (hb.mono (by simp))
        obtain ⟨hc, hf⟩ := bcell hb
        go_wp2
        go_ret
        exact ⟨ret_bool (recOk_ttl (by omega)).symm, hB1⟩
end Go.Proofs.YtefdokkadckbbaaGreatDoor
