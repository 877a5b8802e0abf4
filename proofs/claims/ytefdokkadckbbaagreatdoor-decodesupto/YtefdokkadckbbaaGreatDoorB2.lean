/- wire.saidBytes, wire.recordBytes. -/
import Derived.Test.YtefdokkadckbbaaGreatDoorB1
import Derived.Deep.RegionHeld3
namespace Go.Proofs.YtefdokkadckbbaaGreatDoor
open Go.RowKit
set_option maxRecDepth 100000

theorem nameOk_parts {s : ByteArray} {ss : List ByteArray} (h : ss.map tl = labs (tl s)) (hn : nameOk (tl s) = true) : ss.length ≤ 5 ∧ ∀ (j : Nat) (x : ByteArray), ss[j]? = some x → x.size ≤ 6 := by
  rw [nameOk_of h] at hn
  simp only [Bool.and_eq_true, decide_eq_true_eq] at hn
  refine ⟨hn.1, fun j x hx => ?_⟩
  have := List.all_eq_true.1 hn.2 x (List.mem_of_getElem? hx)
  unfold isLab labOk at this
  rw [Bool.and_eq_true] at this
  have h2 := of_decide_eq_true this.1
  rw [tl_length] at h2
  omega
theorem StrSl.below {w w' : World} {v : Value} {xs : List ByteArray} (h : StrSl w v xs) (hb : Below w.heap.size w w') : StrSl w' v xs := by
  rcases h with h | ⟨g, o, c, hv, hg, hc, hcell⟩
  · exact .inl h
  · exact .inr ⟨g, o, c, hv, Nat.lt_of_lt_of_le hg hb.size, hc, fun j x hx => (hb.cell (p := ⟨g, o + j, none⟩) hg).trans (hcell j x hx)⟩
theorem nameOk_small {s : ByteArray} (h : nameOk (tl s) = true) : s.size ≤ 1048576 := by
  have := nameOk_size _ h; rw [tl_length] at this; omega

set_option maxHeartbeats 1000000 in
theorem said_any (r : Rec) (w : World) (hG : Good w) (hs : saysOk r = true) :
    Calls Tryz.prog 285 #[.agg #[.string r.name, .int .i64 r.ty, .int .i64 r.ttl, .int .i64 r.num, .string r.target]] w fun e w' => e = .returned (.string (mk (saidW r))) ∧ Below w.heap.size w w' := by
  obtain ⟨nm, ty, ttl, num, tg⟩ := r
  have hG' := hG.alloc (.cells #[.string nm, .int .i64 ty, .int .i64 ttl, .int .i64 num, .string tg] 71)
  have hB := (Below.refl w.heap.size w).alloc (Nat.le_refl _) (.cells #[.string nm, .int .i64 ty, .int .i64 ttl, .int .i64 num, .string tg] 71)
  by_cases t1 : ty = 1
  · subst t1
    have e1 : saidW ⟨nm, 1, ttl, num, tg⟩ = [byte num] := rfl
    go_enter Tryz.func285, Tryz.ntmps285
    go_wp2_with (go_at_call 177; refine (oneByte_any _ _).mono ?_; rintro e w1 ⟨rfl, hb⟩)
    go_ret
    exact ⟨ret_str rfl, hB.trans (hb.mono (by simp))⟩
  by_cases t2 : ty = 2 ∨ ty = 3
  · have e1 : saidW ⟨nm, ty, ttl, num, tg⟩ = nameW (tl tg) := by unfold saidW; rw [if_neg t1, if_pos t2]
    have hok : nameOk (tl tg) = true := by unfold saysOk at hs; rw [if_neg t1, if_pos t2, Bool.and_eq_true] at hs; exact hs.2
    rw [e1]
    clear e1 hs
    rcases t2 with rfl | rfl
    all_goals
      go_enter Tryz.func285, Tryz.ntmps285
      go_wp2_with fail
      refine (Labels_any _ _ hG' (nameOk_small hok)).mono ?_
      rintro e w1 ⟨v, ss, rfl, hmap, hsl, hb⟩
      have hp := nameOk_parts hmap hok
      have hB1 := hB.trans (hb.mono (by simp))
      have HM : Hid (ss.map tl = labs (tl tg)) := hmap
      clear hmap
      have H6 : Hid (∀ (j : Nat) (x : ByteArray), ss[j]? = some x → x.size ≤ 6) := hp.2
      have h5 := hp.1
      clear hp
      go_wp2_with fail
      refine (nameBytes_any v ss _ hsl h5 H6.out).mono ?_
      rintro e w2 ⟨rfl, hb2⟩
      go_wp2
      go_ret
      exact ⟨ret_str (by rw [nameW_eq, HM.out]), hB1.trans (hb2.mono hB1.size)⟩
  · have e1 : saidW ⟨nm, ty, ttl, num, tg⟩ = [] := by unfold saidW; rw [if_neg t1, if_neg t2]
    rw [e1]
    have t2' : ¬ ty = 2 := fun h => t2 (.inl h)
    have t3' : ¬ ty = 3 := fun h => t2 (.inr h)
    clear t2
    go_enter Tryz.func285, Tryz.ntmps285
    go_wp2
    go_ret
    exact ⟨ret_str rfl, hB⟩

theorem StrSl_lit (w : World) (xs : List ByteArray) : StrSl (w.alloc (.cells (xs.map Value.string).toArray 9)) (.slice (some ⟨w.heap.size, 0, none⟩) xs.length xs.length) xs := by
  refine .inr ⟨w.heap.size, 0, xs.length, rfl, by simp, Nat.le_refl _, fun j x hj => ?_⟩
  rw [Nat.zero_add]
  simp [hj]

/-- A record's box stays as it was. -/
theorem keepR {g : Nat} {W0 wA wB : World} {v0 v1 v2 v3 v4 : Value} (hg : g < W0.heap.size)
    (h : wA.cell? ⟨g, 0, none⟩ = some v0 ∧ wA.cell? ⟨g, 1, none⟩ = some v1 ∧ wA.cell? ⟨g, 2, none⟩ = some v2 ∧ wA.cell? ⟨g, 3, none⟩ = some v3 ∧ wA.cell? ⟨g, 4, none⟩ = some v4 ∧ Below W0.heap.size W0 wA) (hb : Below wA.heap.size wA wB) :
    wB.cell? ⟨g, 0, none⟩ = some v0 ∧ wB.cell? ⟨g, 1, none⟩ = some v1 ∧ wB.cell? ⟨g, 2, none⟩ = some v2 ∧ wB.cell? ⟨g, 3, none⟩ = some v3 ∧ wB.cell? ⟨g, 4, none⟩ = some v4 ∧ Below W0.heap.size W0 wB := by
  obtain ⟨h0, h1, h2, h3, h4, h5⟩ := h
  have hlt : g < wA.heap.size := Nat.lt_of_lt_of_le hg h5.size
  simp only [hb.cell (p := ⟨g, _, none⟩) hlt]
  exact ⟨h0, h1, h2, h3, h4, h5.trans (hb.mono h5.size)⟩
theorem keepA (w : World) (o : Obj) : Below w.heap.size w (w.alloc o) := (Below.refl _ _).alloc (Nat.le_refl _) o
theorem goodR {W0 wA : World} {c0 c1 c2 c3 c4 : Prop} (hG : Good W0) (h : c0 ∧ c1 ∧ c2 ∧ c3 ∧ c4 ∧ Below W0.heap.size W0 wA) : Good wA := hG.below h.2.2.2.2.2

theorem belR {W0 wA : World} {c0 c1 c2 c3 c4 : Prop} (h : c0 ∧ c1 ∧ c2 ∧ c3 ∧ c4 ∧ Below W0.heap.size W0 wA) : Below W0.heap.size W0 wA := h.2.2.2.2.2

theorem rec_flat (r : Rec) {ss : List ByteArray} (h : ss.map tl = labs (tl r.name)) : flat [mk (labsW (ss.map tl)), b1 r.ty, b2 r.ttl, mk (saidW r)] = recW r := by
  rw [h, ← nameW_eq]
  simp [flat, tl_mk', b1_mk, b2_mk, recW]

set_option maxHeartbeats 1000000 in
theorem recordBytes_any (r : Rec) (w : World) (hG : Good w) (hr : recOk r = true) :
    Calls Tryz.prog 241 #[.agg #[.string r.name, .int .i64 r.ty, .int .i64 r.ttl, .int .i64 r.num, .string r.target]] w fun e w' => e = .returned (.string (mk (recW r))) ∧ Below w.heap.size w w' := by
  have hG' := hG.alloc (.cells #[.string r.name, .int .i64 r.ty, .int .i64 r.ttl, .int .i64 r.num, .string r.target] 71)
  have hB := (Below.refl w.heap.size w).alloc (Nat.le_refl _) (.cells #[.string r.name, .int .i64 r.ty, .int .i64 r.ttl, .int .i64 r.num, .string r.target] 71)
  have hok : nameOk (tl r.name) = true ∧ saysOk r = true := by unfold recOk at hr; simp only [Bool.and_eq_true] at hr; exact ⟨hr.1.1, hr.2⟩
  obtain ⟨hnm, hsy⟩ := hok
  have hlen := recW_length r hr
  have hgl : w.heap.size < (w.alloc (.cells #[.string r.name, .int .i64 r.ty, .int .i64 r.ttl, .int .i64 r.num, .string r.target] 71)).heap.size := by simp
  generalize hW : w.alloc (.cells #[.string r.name, .int .i64 r.ty, .int .i64 r.ttl, .int .i64 r.num, .string r.target] 71) = W0 at hG' hB hgl
  have HW : Hid (w.alloc (.cells #[.string r.name, .int .i64 r.ty, .int .i64 r.ttl, .int .i64 r.num, .string r.target] 71) = W0) := hW
  clear hW
  go_enter Tryz.func241, Tryz.ntmps241
  go_wp2
  rw [HW.out]
  have c0 : W0.cell? ⟨w.heap.size, 0, none⟩ = some (.string r.name) := by rw [← HW.out]; simp
  have c1 : W0.cell? ⟨w.heap.size, 1, none⟩ = some (.int .i64 r.ty) := by rw [← HW.out]; simp
  have c2 : W0.cell? ⟨w.heap.size, 2, none⟩ = some (.int .i64 r.ttl) := by rw [← HW.out]; simp
  have c3 : W0.cell? ⟨w.heap.size, 3, none⟩ = some (.int .i64 r.num) := by rw [← HW.out]; simp
  have c4 : W0.cell? ⟨w.heap.size, 4, none⟩ = some (.string r.target) := by rw [← HW.out]; simp
  have hB0 : Below W0.heap.size W0 W0 := Below.refl _ _
  have hB0d : Below W0.heap.size W0 W0.drew := (Below.refl _ _).drew
  go_region_held3 (fun w' => w'.cell? ⟨w.heap.size, 0, none⟩ = some (.string r.name) ∧ w'.cell? ⟨w.heap.size, 1, none⟩ = some (.int .i64 r.ty) ∧ w'.cell? ⟨w.heap.size, 2, none⟩ = some (.int .i64 r.ttl) ∧ w'.cell? ⟨w.heap.size, 3, none⟩ = some (.int .i64 r.num) ∧ w'.cell? ⟨w.heap.size, 4, none⟩ = some (.string r.target) ∧ Below W0.heap.size W0 w')
    (first | exact keepR hgl (by assumption) (by assumption) | exact keepR hgl (by assumption) (keepA _ _) | go_keep)
    (first
      | (go_at_call 180; refine (Labels_any _ _ (goodR hG' (by assumption)) (nameOk_small hnm)).mono ?_; rintro e w1 ⟨v, ss, rfl, hmap, hsl, hb1⟩; have HM : Hid (ss.map tl = labs (tl r.name)) := hmap; clear hmap)
      | (go_at_call 179; refine (nameBytes_any v ss _ (by assumption) (nameOk_parts HM.out hnm).1 (nameOk_parts HM.out hnm).2).mono ?_; rintro e w2 ⟨rfl, hb2⟩)
      | (go_at_call 177; refine (oneByte_any _ _).mono ?_; rintro e w3 ⟨rfl, hb3⟩)
      | (go_at_call 176; refine (twoBytes_any _ _).mono ?_; rintro e w4 ⟨rfl, hb4⟩)
      | (go_at_call 285; refine (said_any r _ (goodR hG' (by assumption)) hsy).mono ?_; rintro e w5 ⟨rfl, hb5⟩)
      | (go_at_call 175; refine (together_any _ [mk (labsW (ss.map tl)), b1 r.ty, b2 r.ttl, mk (saidW r)] _ (StrSl_lit _ _) (by simp) (by rw [rec_flat r HM.out]; omega)).mono ?_; rw [rec_flat r HM.out]; rintro e w6 ⟨rfl, hb6⟩))
  have hend : Below w.heap.size w w6 := hB.trans ((belR (wA := w6) (by assumption)).mono hB.size)
  go_wp2
  go_ret
  exact ⟨rfl, hend⟩
end Go.Proofs.YtefdokkadckbbaaGreatDoor
