/- The reference's Decode. -/
import Derived.Test.YtefdokkadckbbaaGreatDoorI5
import Derived.Deep.DeepCutAuto
namespace Go.Proofs.YtefdokkadckbbaaGreatDoor
open Go.RowKit
set_option maxRecDepth 100000

set_option maxHeartbeats 8000000 in
theorem Decode_refk (s : ByteArray) (w : World) (rb : Bool) (hkind : ∀ h : 2 < s.size, s[2].toNat = if rb then 114 else 113) : Calls Tryz.prog 126 #[.string s] w (DRes w (msgS (tl s))) := by
  obtain ⟨W0, hW0⟩ : ∃ W0, W0 = (w.alloc (Obj.cells #[.int .i64 0, .bool false, .int .i64 0, .string ⟨#[]⟩, .int .i64 0, .slice none 0 0, .slice none 0 0, .slice none 0 0] 27)).alloc (Obj.cells #[.int .i64 0, .bool false, .int .i64 0, .string ⟨#[]⟩, .int .i64 0, .slice none 0 0, .slice none 0 0, .slice none 0 0] 27) := ⟨_, rfl⟩
  have hs0 : w.heap.size + 2 ≤ W0.heap.size := by rw [hW0]; simp
  have hz0 : W0.heap[w.heap.size]? = some (.cells #[.int .i64 0, .bool false, .int .i64 0, .string ⟨#[]⟩, .int .i64 0, .slice none 0 0, .slice none 0 0, .slice none 0 0] 27 (0, 0)) := by rw [hW0]; exact heap_alloc_old (by rw [heap_alloc_new]) _
  have hy0 : W0.heap[w.heap.size + 1]? = some (.cells #[.int .i64 0, .bool false, .int .i64 0, .string ⟨#[]⟩, .int .i64 0, .slice none 0 0, .slice none 0 0, .slice none 0 0] 27 (0, 0)) := by
    have := heap_alloc_new (w.alloc (Obj.cells #[.int .i64 0, .bool false, .int .i64 0, .string ⟨#[]⟩, .int .i64 0, .slice none 0 0, .slice none 0 0, .slice none 0 0] 27)) (Obj.cells #[.int .i64 0, .bool false, .int .i64 0, .string ⟨#[]⟩, .int .i64 0, .slice none 0 0, .slice none 0 0, .slice none 0 0] 27)
    rw [World.size_alloc] at this
    rw [hW0]; exact this
  have hB0 : Below w.heap.size w W0 := by rw [hW0]; exact keepB (keepA _ _) (keepA _ _)
  have HW : Hid ((w.alloc (Obj.cells #[.int .i64 0, .bool false, .int .i64 0, .string ⟨#[]⟩, .int .i64 0, .slice none 0 0, .slice none 0 0, .slice none 0 0] 27)).alloc (Obj.cells #[.int .i64 0, .bool false, .int .i64 0, .string ⟨#[]⟩, .int .i64 0, .slice none 0 0, .slice none 0 0, .slice none 0 0] 27) = W0) := hW0.symm
  clear hW0
  by_cases h1000 : s.size ≤ 1000
  case neg =>
    have HN : Hid (msgS (tl s) = none) := msgS_long h1000
    go_enter Tryz.func126, Tryz.ntmps126
    go_wp2
    rw [HW.out]
    obtain ⟨x0, x1, x2, x3, x4, x5, x6, x7⟩ := fill8_cells hz0
    refine bodyPost_ret (v := .tuple #[zMsg, .int .i64 2]) (by simp [results, Tryz.results126, go_sem, zMsg, x0, x1, x2, x3, x4, x5, x6, x7]) rfl ?_
    rw [HN.out]
    exact ⟨hB0, rfl⟩
  case pos =>
  by_cases h4 : s.size < 4
  · have HN : Hid (msgS (tl s) = none) := msgS_short h4
    go_enter Tryz.func126, Tryz.ntmps126
    go_wp2
    rw [HW.out]
    obtain ⟨x0, x1, x2, x3, x4, x5, x6, x7⟩ := fill8_cells hz0
    refine bodyPost_ret (v := .tuple #[zMsg, .int .i64 2]) (by simp [results, Tryz.results126, go_sem, zMsg, x0, x1, x2, x3, x4, x5, x6, x7]) rfl ?_
    rw [HN.out]
    exact ⟨hB0, rfl⟩
  have l0 : 0 < s.size := by omega
  have l1 : 1 < s.size := by omega
  have l2 : 2 < s.size := by omega
  have l3 : 3 < s.size := by omega
  have j1 : ¬ (1000 : Int) < (s.size : Int) := by omega
  have j2 : ¬ (s.size : Int) < 4 := by omega
  obtain ⟨c0, hc0⟩ : ∃ c : Int, c = (s[0].toNat : Int) := ⟨_, rfl⟩
  have b0 : 0 ≤ c0 ∧ c0 ≤ 255 := by have := s[0].toNat_lt; omega
  obtain ⟨b0a, b0b⟩ := b0
  obtain ⟨c1, hc1⟩ : ∃ c : Int, c = (s[1].toNat : Int) := ⟨_, rfl⟩
  have b1 : 0 ≤ c1 ∧ c1 ≤ 255 := by have := s[1].toNat_lt; omega
  obtain ⟨b1a, b1b⟩ := b1
  obtain ⟨c2, hc2⟩ : ∃ c : Int, c = (s[2].toNat : Int) := ⟨_, rfl⟩
  have b2 : 0 ≤ c2 ∧ c2 ≤ 255 := by have := s[2].toNat_lt; omega
  obtain ⟨b2a, b2b⟩ := b2
  obtain ⟨c3, hc3⟩ : ∃ c : Int, c = (s[3].toNat : Int) := ⟨_, rfl⟩
  have b3 : 0 ≤ c3 ∧ c3 ≤ 255 := by have := s[3].toNat_lt; omega
  obtain ⟨b3a, b3b⟩ := b3
  have hx0 : ∀ w, (Instr.index 9 (.string s) (.int .i64 0)).run Tryz.prog w = .ok (.int .u8 c0) w := fun w => by rw [run_index_string w 9 s .i64 0 u9, dif_pos ⟨by omega, by omega⟩, hc0]; rfl
  have hx1 : ∀ w, (Instr.index 9 (.string s) (.int .i64 1)).run Tryz.prog w = .ok (.int .u8 c1) w := fun w => by rw [run_index_string w 9 s .i64 1 u9, dif_pos ⟨by omega, by omega⟩, hc1]; rfl
  have hx2 : ∀ w, (Instr.index 9 (.string s) (.int .i64 2)).run Tryz.prog w = .ok (.int .u8 c2) w := fun w => by rw [run_index_string w 9 s .i64 2 u9, dif_pos ⟨by omega, by omega⟩, hc2]; rfl
  have hx3 : ∀ w, (Instr.index 9 (.string s) (.int .i64 3)).run Tryz.prog w = .ok (.int .u8 c3) w := fun w => by rw [run_index_string w 9 s .i64 3 u9, dif_pos ⟨by omega, by omega⟩, hc3]; rfl
  have hrb : c2 = if rb then 114 else 113 := by
    rw [hc2, hkind l2]
    cases rb <;> rfl
  by_cases j3 : 3 < c3
  · have HN : Hid (msgS (tl s) = none) := by show _ = _; exact msgS_code h1000 l3 (by rw [← hc2]; exact hrb) (by rw [← hc3]; omega)
    clear hc0 hc1 hc2 hc3
    cases rb
    all_goals
      simp only [Bool.false_eq_true, if_true, if_false] at hrb
      go_enter Tryz.func126, Tryz.ntmps126
      go_wp2
      rw [HW.out]
      obtain ⟨x0, x1, x2, x3, x4, x5, x6, x7⟩ := fill8_cells hz0
      refine bodyPost_ret (v := .tuple #[zMsg, .int .i64 2]) (by simp [results, Tryz.results126, go_sem, zMsg, x0, x1, x2, x3, x4, x5, x6, x7]) rfl ?_
      rw [HN.out]
      exact ⟨hB0, rfl⟩
  have HM : Hid (msgS (tl s) = headS (tl s) (fun nm ty la lb lc => ⟨c0 + 256 * c1, rb, c3, mk nm, ty, la, lb, lc⟩) 4) := by
    show _ = _
    rw [hc0, hc1, hc3]; exact msgS_head h1000 l3 (by rw [← hc2]; exact hrb) (by rw [← hc3]; omega)
  have hrb2 : (c2 == 114) = rb := by
    rw [hrb]
    cases rb <;> decide
  have HB : Hid ((c2 == 114) = rb) := hrb2
  have HR := hid hrb
  clear hc0 hc1 hc3 hc2 hrb hrb2 hkind
  all_goals
    go_enter Tryz.func126, Tryz.ntmps126
    go_upto_region 2 with fail
    rw [HW.out]
    go_cut [37] (fun x wx => x = .bool false ∧ W0 = wx)
    case first =>
      have hr := HR.out
      clear HR HM HB
      cases rb
      all_goals
        simp only [Bool.false_eq_true, if_true, if_false] at hr
        go_wp2
        go_meet
        exact ⟨rfl, rfl⟩
    obtain ⟨rfl, rfl⟩ := hcut
    go_wp2
    clear HW HR j3
    have hrb2 := HB.out
    refine wp_region_noPanic ?_
    refine wp_region_held_drew (S := fun _ => True) (by kernel_rfl) trivial (fun hHeld => ?_)
    refine wpAnyH_take (i := 0) (v := (.string s)) rfl (by kernel_rfl) (by kernel_rfl) (by kernel_rfl) (fun _ _ _ h => h) (Or.inl ⟨by rfl, fun w hw => by go_simp <;> exact IntWalk.i64_in _ (by omega)⟩) hHeld ?_
    refine wpAnyH_take (i := 1) (v := (.int .u8 c0)) rfl (by kernel_rfl) (by kernel_rfl) (by kernel_rfl) (fun _ _ _ h => h) (Or.inl ⟨by rfl, fun w hw => by go_simp <;> exact IntWalk.i64_in _ (by omega)⟩) hHeld ?_
    refine wpAnyH_take (i := 2) (v := (.int .i64 c0)) rfl (by kernel_rfl) (by kernel_rfl) (by kernel_rfl) (fun _ _ _ h => h) (Or.inl ⟨by rfl, fun w hw => by go_simp <;> exact IntWalk.i64_in _ (by omega)⟩) hHeld ?_
    refine wpAnyH_take (i := 3) (v := (.string s)) rfl (by kernel_rfl) (by kernel_rfl) (by kernel_rfl) (fun _ _ _ h => h) (Or.inl ⟨by rfl, fun w hw => by go_simp <;> exact IntWalk.i64_in _ (by omega)⟩) hHeld ?_
    refine wpAnyH_take (i := 4) (v := (.int .u8 c1)) rfl (by kernel_rfl) (by kernel_rfl) (by kernel_rfl) (fun _ _ _ h => h) (Or.inl ⟨by rfl, fun w hw => by go_simp <;> exact IntWalk.i64_in _ (by omega)⟩) hHeld ?_
    refine wpAnyH_take (i := 5) (v := (.int .i64 c1)) rfl (by kernel_rfl) (by kernel_rfl) (by kernel_rfl) (fun _ _ _ h => h) (Or.inl ⟨by rfl, fun w hw => by go_simp <;> exact IntWalk.i64_in _ (by omega)⟩) hHeld ?_
    refine wpAnyH_take (i := 6) (v := (.int .i64 (256 * c1))) rfl (by kernel_rfl) (by kernel_rfl) (by kernel_rfl) (fun _ _ _ h => h) (Or.inl ⟨by rfl, fun w hw => by go_simp <;> exact IntWalk.i64_in _ (by omega)⟩) hHeld ?_
    refine wpAnyH_take (i := 7) (v := (.int .i64 (c0 + 256 * c1))) rfl (by kernel_rfl) (by kernel_rfl) (by kernel_rfl) (fun _ _ _ h => h) (Or.inl ⟨by rfl, fun w hw => by go_simp <;> exact IntWalk.i64_in _ (by omega)⟩) hHeld ?_
    refine wpAnyH_take (i := 8) (v := (.string s)) rfl (by kernel_rfl) (by kernel_rfl) (by kernel_rfl) (fun _ _ _ h => h) (Or.inl ⟨by rfl, fun w hw => by go_simp <;> exact IntWalk.i64_in _ (by omega)⟩) hHeld ?_
    refine wpAnyH_take (i := 9) (v := (.int .u8 c2)) rfl (by kernel_rfl) (by kernel_rfl) (by kernel_rfl) (fun _ _ _ h => h) (Or.inl ⟨by rfl, fun w hw => by go_simp <;> exact IntWalk.i64_in _ (by omega)⟩) hHeld ?_
    refine wpAnyH_take (i := 10) (v := (.bool rb)) rfl (by kernel_rfl) (by kernel_rfl) (by kernel_rfl) (fun _ _ _ h => h) (Or.inl ⟨by rfl, fun w hw => by go_simp <;> exact IntWalk.i64_in _ (by omega)⟩) hHeld ?_
    refine wpAnyH_take (i := 11) (v := (.string s)) rfl (by kernel_rfl) (by kernel_rfl) (by kernel_rfl) (fun _ _ _ h => h) (Or.inl ⟨by rfl, fun w hw => by go_simp <;> exact IntWalk.i64_in _ (by omega)⟩) hHeld ?_
    refine wpAnyH_take (i := 12) (v := (.int .u8 c3)) rfl (by kernel_rfl) (by kernel_rfl) (by kernel_rfl) (fun _ _ _ h => h) (Or.inl ⟨by rfl, fun w hw => by go_simp <;> exact IntWalk.i64_in _ (by omega)⟩) hHeld ?_
    refine wpAnyH_take (i := 13) (v := (.int .i64 c3)) rfl (by kernel_rfl) (by kernel_rfl) (by kernel_rfl) (fun _ _ _ h => h) (Or.inl ⟨by rfl, fun w hw => by go_simp <;> exact IntWalk.i64_in _ (by omega)⟩) hHeld ?_
    refine wpAnyH_take (i := 14) (v := (.agg #[.int .i64 (c0 + 256 * c1), .bool rb, .int .i64 c3, .string ⟨#[]⟩, .int .i64 0, .slice none 0 0, .slice none 0 0, .slice none 0 0])) rfl (by kernel_rfl) (by kernel_rfl) (by kernel_rfl) (fun _ _ _ h => h) (Or.inl ⟨by rfl, fun w hw => by go_simp <;> exact IntWalk.i64_in _ (by omega)⟩) hHeld ?_
    refine wpAnyH_ready (rs := [15]) (by kernel_rfl) (by simp) ?_
    refine AllReadyH.cons rfl (fun K hK => ?_) AllReadyH.nil
    go_simp
    refine hK.out _ _ trivial (fun hHeld => ?_)
    clear hK K
    refine wpAnyH_ready (rs := [16]) (by kernel_rfl) (by simp) ?_
    refine AllReadyH.cons rfl (fun K hK => ?_) AllReadyH.nil
    go_simp
    refine hK.out _ _ trivial (fun hHeld => ?_)
    clear hK K hHeld
    refine wpAnyH_done (by kernel_rfl) ?_ _
    refine NoPanic.normal ?_
    go_wp2_with fail
    obtain ⟨p, hp⟩ : ∃ p, p = W0.heap.size := ⟨_, rfl⟩
    obtain ⟨X1, hX1⟩ : ∃ X1, X1 = (W0.alloc (Obj.cells #[.int .i64 (c0 + 256 * c1), .bool rb, .int .i64 c3, .string ⟨#[]⟩, .int .i64 0, .slice none 0 0, .slice none 0 0, .slice none 0 0] 27)).drew := ⟨_, rfl⟩
    rw [← hp, ← hX1]
    have hp1 : X1.heap[p]? = some (.cells #[.int .i64 (c0 + 256 * c1), .bool rb, .int .i64 c3, .string ⟨#[]⟩, .int .i64 0, .slice none 0 0, .slice none 0 0, .slice none 0 0] 27 (0, 0)) := by rw [hX1, hp]; exact heap_alloc_new W0 _
    have hy1 : X1.heap[w.heap.size + 1]? = some (.cells #[.int .i64 0, .bool false, .int .i64 0, .string ⟨#[]⟩, .int .i64 0, .slice none 0 0, .slice none 0 0, .slice none 0 0] 27 (0, 0)) := by rw [hX1]; exact heap_alloc_old hy0 _
    have hz1 : X1.heap[w.heap.size]? = some (.cells #[.int .i64 0, .bool false, .int .i64 0, .string ⟨#[]⟩, .int .i64 0, .slice none 0 0, .slice none 0 0, .slice none 0 0] 27 (0, 0)) := by rw [hX1]; exact heap_alloc_old hz0 _
    have hB1 : Below w.heap.size w X1 := by rw [hX1]; exact (keepB hB0 (keepA _ _)).drew
    have hpl : w.heap.size + 2 ≤ p := by omega
    clear hp hX1 hz0 hy0 hB0 hs0 hx0 hx1 hx2 hx3 hrb2 HB
    have L := labels_ref s h1000 4 X1 (by omega)
    change Calls _ _ #[_, .int .i64 4] _ _ at L
    cases hc : cutS (tl s) 4 with
    | none =>
      have HN : Hid (msgS (tl s) = none) := by show _ = _; rw [HM.out]; exact headS_none hc
      refine (CRes.no L hc).mono ?_
      rintro e w3 ⟨rfl, hb3⟩
      have hz3 := heap_below hz1 hb3
      have hy3 := heap_below hy1 hb3
      have hB3 := hB1.trans (hb3.mono hB1.size)
      obtain ⟨y0, y1, y2, y3, y4, y5, y6, y7⟩ := fill8_cells hy3
      have yf : ∀ k, w3.frozen? ⟨w.heap.size + 1, k, none⟩ = false := fun k => frozen_of_row w3 _ k _ 27 hy3
      obtain ⟨z0, z1, z2, z3, z4, z5, z6, z7⟩ := fill8_cells hz3
      have zf : ∀ k, w3.frozen? ⟨w.heap.size, k, none⟩ = false := fun k => frozen_of_row w3 _ k _ 27 hz3
      go_wp2
      obtain ⟨Y, hY⟩ : ∃ Y, Y = fill8 w.heap.size (.int .i64 0) (.bool false) (.int .i64 0) (.string ⟨#[]⟩) (.int .i64 0) (.slice none 0 0) (.slice none 0 0) (.slice none 0 0) w3 := ⟨_, rfl⟩
      have hYb : Y.heap[w.heap.size]? = some (.cells #[.int .i64 0, .bool false, .int .i64 0, .string ⟨#[]⟩, .int .i64 0, .slice none 0 0, .slice none 0 0, .slice none 0 0] 27 (0, 0)) := by rw [hY]; exact fill8_heap hz3
      have hYB : Below w.heap.size w Y := by rw [hY]; exact below_fill hB3 (Nat.le_refl _)
      unfold fill8 at hY
      rw [← hY]
      clear hY y0 y1 y2 y3 y4 y5 y6 y7 yf z0 z1 z2 z3 z4 z5 z6 z7 zf
      obtain ⟨x0, x1, x2, x3, x4, x5, x6, x7⟩ := fill8_cells hYb
      refine bodyPost_ret (v := .tuple #[zMsg, .int .i64 2]) (by simp [results, Tryz.results126, go_sem, zMsg, x0, x1, x2, x3, x4, x5, x6, x7]) rfl ?_
      rw [HN.out]
      exact ⟨hYB, rfl⟩
    | some x =>
      obtain ⟨l, m⟩ := x
      obtain ⟨hnm, hml, hl5, hall⟩ := cutS_bd hc
      rw [tl_length] at hml
      refine (CRes.ok L hc).mono ?_
      rintro e w3 ⟨v, ss, rfl, hmap, hsl, hb3⟩
      have hz3 := heap_below hz1 hb3
      have hy3 := heap_below hy1 hb3
      have hp3 := heap_below hp1 hb3
      have hB3 := hB1.trans (hb3.mono hB1.size)
      have HL : Hid (ss.map tl = l) := hmap
      have H6 : Hid (∀ x ∈ l, x.length ≤ 6) := all_six hall
      have hss : ss.length ≤ 5 := by rw [← List.length_map (f := tl), hmap]; exact hl5
      clear hmap hall hb3 hz1 hy1 hp1 hB1 L
      obtain ⟨va, vc, rfl, hany⟩ := hsl.any
      clear hany
      by_cases hm4 : s.size < m + 4
      · have HN : Hid (msgS (tl s) = none) := by show _ = _; rw [HM.out]; exact headS_out hc hm4
        have q1 : (s.size : Int) < (m : Int) + 4 := by omega
        obtain ⟨y0, y1, y2, y3, y4, y5, y6, y7⟩ := fill8_cells hy3
        have yf : ∀ k, w3.frozen? ⟨w.heap.size + 1, k, none⟩ = false := fun k => frozen_of_row w3 _ k _ 27 hy3
        obtain ⟨z0, z1, z2, z3, z4, z5, z6, z7⟩ := fill8_cells hz3
        have zf : ∀ k, w3.frozen? ⟨w.heap.size, k, none⟩ = false := fun k => frozen_of_row w3 _ k _ 27 hz3
        go_wp2
        obtain ⟨Y, hY⟩ : ∃ Y, Y = fill8 w.heap.size (.int .i64 0) (.bool false) (.int .i64 0) (.string ⟨#[]⟩) (.int .i64 0) (.slice none 0 0) (.slice none 0 0) (.slice none 0 0) w3 := ⟨_, rfl⟩
        have hYb : Y.heap[w.heap.size]? = some (.cells #[.int .i64 0, .bool false, .int .i64 0, .string ⟨#[]⟩, .int .i64 0, .slice none 0 0, .slice none 0 0, .slice none 0 0] 27 (0, 0)) := by rw [hY]; exact fill8_heap hz3
        have hYB : Below w.heap.size w Y := by rw [hY]; exact below_fill hB3 (Nat.le_refl _)
        unfold fill8 at hY
        rw [← hY]
        clear hY y0 y1 y2 y3 y4 y5 y6 y7 yf z0 z1 z2 z3 z4 z5 z6 z7 zf
        obtain ⟨x0, x1, x2, x3, x4, x5, x6, x7⟩ := fill8_cells hYb
        refine bodyPost_ret (v := .tuple #[zMsg, .int .i64 2]) (by simp [results, Tryz.results126, go_sem, zMsg, x0, x1, x2, x3, x4, x5, x6, x7]) rfl ?_
        rw [HN.out]
        exact ⟨hYB, rfl⟩
      have q1 : ¬ (s.size : Int) < (m : Int) + 4 := by omega
      have q2 : ¬ (m : Int) < 0 := by omega
      have m0 : m < s.size := by omega
      obtain ⟨c4, hc4⟩ : ∃ c : Int, c = (s[m].toNat : Int) := ⟨_, rfl⟩
      have b4 : 0 ≤ c4 ∧ c4 ≤ 255 := by have := s[m].toNat_lt; omega
      obtain ⟨b4a, b4b⟩ := b4
      have hx4 : ∀ w, (Instr.index 9 (.string s) (.int .i64 (m : Int))).run Tryz.prog w = .ok (.int .u8 c4) w := fun w => by rw [run_index_string w 9 s .i64 _ u9, dif_pos ⟨by omega, by omega⟩, hc4]; rfl
      by_cases q3 : 4 < c4
      · have HN : Hid (msgS (tl s) = none) := by show _ = _; rw [HM.out]; exact headS_type hc m0 (by rw [← hc4]; omega)
        clear hc4
        obtain ⟨y0, y1, y2, y3, y4, y5, y6, y7⟩ := fill8_cells hy3
        have yf : ∀ k, w3.frozen? ⟨w.heap.size + 1, k, none⟩ = false := fun k => frozen_of_row w3 _ k _ 27 hy3
        obtain ⟨z0, z1, z2, z3, z4, z5, z6, z7⟩ := fill8_cells hz3
        have zf : ∀ k, w3.frozen? ⟨w.heap.size, k, none⟩ = false := fun k => frozen_of_row w3 _ k _ 27 hz3
        go_wp2
        obtain ⟨Y, hY⟩ : ∃ Y, Y = fill8 w.heap.size (.int .i64 0) (.bool false) (.int .i64 0) (.string ⟨#[]⟩) (.int .i64 0) (.slice none 0 0) (.slice none 0 0) (.slice none 0 0) w3 := ⟨_, rfl⟩
        have hYb : Y.heap[w.heap.size]? = some (.cells #[.int .i64 0, .bool false, .int .i64 0, .string ⟨#[]⟩, .int .i64 0, .slice none 0 0, .slice none 0 0, .slice none 0 0] 27 (0, 0)) := by rw [hY]; exact fill8_heap hz3
        have hYB : Below w.heap.size w Y := by rw [hY]; exact below_fill hB3 (Nat.le_refl _)
        unfold fill8 at hY
        rw [← hY]
        clear hY y0 y1 y2 y3 y4 y5 y6 y7 yf z0 z1 z2 z3 z4 z5 z6 z7 zf
        obtain ⟨x0, x1, x2, x3, x4, x5, x6, x7⟩ := fill8_cells hYb
        refine bodyPost_ret (v := .tuple #[zMsg, .int .i64 2]) (by simp [results, Tryz.results126, go_sem, zMsg, x0, x1, x2, x3, x4, x5, x6, x7]) rfl ?_
        rw [HN.out]
        exact ⟨hYB, rfl⟩
      have HT : Hid (msgS (tl s) = tailS (tl s) (fun la lb lc => ⟨c0 + 256 * c1, rb, c3, mk (dotJoin l), c4, la, lb, lc⟩) (m + 1)) := by
        show _ = _
        rw [HM.out, headS_tail hc m0 (by rw [← hc4]; omega), hc4]
      clear hc4 HM hc
      go_wp2_with fail
      refine (joined_any _ ss _ hsl hss (by rw [HL.out]; exact H6.out)).mono ?_
      rw [HL.out]
      rintro e w4 ⟨rfl, hb4⟩
      have hz4 := heap_below hz3 hb4
      have hy4 := heap_below hy3 hb4
      have hp4 := heap_below hp3 hb4
      have hB4 := hB3.trans (hb4.mono hB3.size)
      clear hz3 hy3 hp3 hB3 hb4 hsl hss HL H6
      obtain ⟨x0, x1, x2, x3, x4, x5, x6, x7⟩ := fill8_cells hp4
      have xf : ∀ k, w4.frozen? ⟨p, k, none⟩ = false := fun k => frozen_of_row w4 _ k _ 27 hp4
      obtain ⟨X2, hX2⟩ : ∃ X2, X2 = (w4.setCell ⟨p, 3, none⟩ (.string (mk (dotJoin l)))).setCell ⟨p, 4, none⟩ (.int .i64 c4) := ⟨_, rfl⟩
      have hp2 : X2.heap[p]? = some (.cells #[.int .i64 (c0 + 256 * c1), .bool rb, .int .i64 c3, .string (mk (dotJoin l)), .int .i64 c4, .slice none 0 0, .slice none 0 0, .slice none 0 0] 27 (0, 0)) := by
        have e1 : (w4.setCell ⟨p, 3, none⟩ (.string (mk (dotJoin l)))).heap[p]? = some (.cells #[.int .i64 (c0 + 256 * c1), .bool rb, .int .i64 c3, .string (mk (dotJoin l)), .int .i64 0, .slice none 0 0, .slice none 0 0, .slice none 0 0] 27 (0, 0)) := by rw [heap_setCell_same _ p 3 _ 27 _ hp4]; rfl
        rw [hX2, heap_setCell_same _ p 4 _ 27 _ e1]; rfl
      have hz2 : X2.heap[w.heap.size]? = some (.cells #[.int .i64 0, .bool false, .int .i64 0, .string ⟨#[]⟩, .int .i64 0, .slice none 0 0, .slice none 0 0, .slice none 0 0] 27 (0, 0)) := by
        rw [hX2, Below.heap_setCell _ ⟨p, 4, none⟩ _ _ (by show _ ≠ p; omega), Below.heap_setCell _ ⟨p, 3, none⟩ _ _ (by show _ ≠ p; omega)]; exact hz4
      have hy2 : X2.heap[w.heap.size + 1]? = some (.cells #[.int .i64 0, .bool false, .int .i64 0, .string ⟨#[]⟩, .int .i64 0, .slice none 0 0, .slice none 0 0, .slice none 0 0] 27 (0, 0)) := by
        rw [hX2, Below.heap_setCell _ ⟨p, 4, none⟩ _ _ (by show _ ≠ p; omega), Below.heap_setCell _ ⟨p, 3, none⟩ _ _ (by show _ ≠ p; omega)]; exact hy4
      have hB2 : Below w.heap.size w X2 := by
        rw [hX2]; exact (hB4.setCell (by show _ ≤ p; omega) _).setCell (by show _ ≤ p; omega) _
      have HX2 : Hid ((w4.setCell ⟨p, 3, none⟩ (.string (mk (dotJoin l)))).setCell ⟨p, 4, none⟩ (.int .i64 c4) = X2) := hX2.symm
      clear hX2
      go_wp2
      rw [HX2.out]
      clear HX2 x0 x1 x2 x3 x4 x5 x6 x7 xf hz4 hy4 hp4 hB4 hx4
      have m1 : m + 1 < s.size := by omega
      have m2 : m + 2 < s.size := by omega
      have m3 : m + 3 < s.size := by omega
      obtain ⟨na, hna⟩ : ∃ c : Nat, s[m + 1].toNat = c := ⟨_, rfl⟩
      obtain ⟨nb, hnb⟩ : ∃ c : Nat, s[m + 2].toNat = c := ⟨_, rfl⟩
      obtain ⟨nc, hnc⟩ : ∃ c : Nat, s[m + 3].toNat = c := ⟨_, rfl⟩
      have na8 : na ≤ 255 := by have := s[m + 1].toNat_lt; omega
      have nb8 : nb ≤ 255 := by have := s[m + 2].toNat_lt; omega
      have nc8 : nc ≤ 255 := by have := s[m + 3].toNat_lt; omega
      have hx5 : ∀ w, (Instr.index 9 (.string s) (.int .i64 ((m : Int) + 1))).run Tryz.prog w = .ok (.int .u8 (na : Int)) w := fun w => by rw [run_index_string w 9 s .i64 _ u9, dif_pos ⟨by omega, by omega⟩, ← hna]; rfl
      have hx6 : ∀ w, (Instr.index 9 (.string s) (.int .i64 ((m : Int) + 2))).run Tryz.prog w = .ok (.int .u8 (nb : Int)) w := fun w => by rw [run_index_string w 9 s .i64 _ u9, dif_pos ⟨by omega, by omega⟩, ← hnb]; rfl
      have hx7 : ∀ w, (Instr.index 9 (.string s) (.int .i64 ((m : Int) + 3))).run Tryz.prog w = .ok (.int .u8 (nc : Int)) w := fun w => by rw [run_index_string w 9 s .i64 _ u9, dif_pos ⟨by omega, by omega⟩, ← hnc]; rfl
      have HA : Hid (s[m + 1].toNat = na) := hna
      have HBb : Hid (s[m + 2].toNat = nb) := hnb
      have HC : Hid (s[m + 3].toNat = nc) := hnc
      clear hna hnb hnc
      refine wp_region_noPanic ?_
      refine wp_region_held_drew (S := fun _ => True) (by kernel_rfl) trivial (fun hHeld => ?_)
      refine wpAnyH_take (i := 0) (v := (.string s)) rfl (by kernel_rfl) (by kernel_rfl) (by kernel_rfl) (fun _ _ _ h => h) (Or.inl ⟨by rfl, fun w hw => by go_simp <;> exact IntWalk.i64_in _ (by omega)⟩) hHeld ?_
      refine wpAnyH_take (i := 1) (v := (.int .i64 (m : Int))) rfl (by kernel_rfl) (by kernel_rfl) (by kernel_rfl) (fun _ _ _ h => h) (Or.inl ⟨by rfl, fun w hw => by go_simp <;> exact IntWalk.i64_in _ (by omega)⟩) hHeld ?_
      refine wpAnyH_take (i := 2) (v := (.int .i64 ((m : Int) + 1))) rfl (by kernel_rfl) (by kernel_rfl) (by kernel_rfl) (fun _ _ _ h => h) (Or.inl ⟨by rfl, fun w hw => by go_simp <;> exact IntWalk.i64_in _ (by omega)⟩) hHeld ?_
      refine wpAnyH_take (i := 3) (v := (.int .u8 (na : Int))) rfl (by kernel_rfl) (by kernel_rfl) (by kernel_rfl) (fun _ _ _ h => h) (Or.inl ⟨by rfl, fun w hw => by go_simp <;> exact IntWalk.i64_in _ (by omega)⟩) hHeld ?_
      refine wpAnyH_take (i := 4) (v := (.int .i64 (na : Int))) rfl (by kernel_rfl) (by kernel_rfl) (by kernel_rfl) (fun _ _ _ h => h) (Or.inl ⟨by rfl, fun w hw => by go_simp <;> exact IntWalk.i64_in _ (by omega)⟩) hHeld ?_
      refine wpAnyH_take (i := 5) (v := (.string s)) rfl (by kernel_rfl) (by kernel_rfl) (by kernel_rfl) (fun _ _ _ h => h) (Or.inl ⟨by rfl, fun w hw => by go_simp <;> exact IntWalk.i64_in _ (by omega)⟩) hHeld ?_
      refine wpAnyH_take (i := 6) (v := (.int .i64 (m : Int))) rfl (by kernel_rfl) (by kernel_rfl) (by kernel_rfl) (fun _ _ _ h => h) (Or.inl ⟨by rfl, fun w hw => by go_simp <;> exact IntWalk.i64_in _ (by omega)⟩) hHeld ?_
      refine wpAnyH_take (i := 7) (v := (.int .i64 ((m : Int) + 2))) rfl (by kernel_rfl) (by kernel_rfl) (by kernel_rfl) (fun _ _ _ h => h) (Or.inl ⟨by rfl, fun w hw => by go_simp <;> exact IntWalk.i64_in _ (by omega)⟩) hHeld ?_
      refine wpAnyH_take (i := 8) (v := (.int .u8 (nb : Int))) rfl (by kernel_rfl) (by kernel_rfl) (by kernel_rfl) (fun _ _ _ h => h) (Or.inl ⟨by rfl, fun w hw => by go_simp <;> exact IntWalk.i64_in _ (by omega)⟩) hHeld ?_
      refine wpAnyH_take (i := 9) (v := (.int .i64 (nb : Int))) rfl (by kernel_rfl) (by kernel_rfl) (by kernel_rfl) (fun _ _ _ h => h) (Or.inl ⟨by rfl, fun w hw => by go_simp <;> exact IntWalk.i64_in _ (by omega)⟩) hHeld ?_
      refine wpAnyH_take (i := 10) (v := (.string s)) rfl (by kernel_rfl) (by kernel_rfl) (by kernel_rfl) (fun _ _ _ h => h) (Or.inl ⟨by rfl, fun w hw => by go_simp <;> exact IntWalk.i64_in _ (by omega)⟩) hHeld ?_
      refine wpAnyH_take (i := 11) (v := (.int .i64 (m : Int))) rfl (by kernel_rfl) (by kernel_rfl) (by kernel_rfl) (fun _ _ _ h => h) (Or.inl ⟨by rfl, fun w hw => by go_simp <;> exact IntWalk.i64_in _ (by omega)⟩) hHeld ?_
      refine wpAnyH_take (i := 12) (v := (.int .i64 ((m : Int) + 3))) rfl (by kernel_rfl) (by kernel_rfl) (by kernel_rfl) (fun _ _ _ h => h) (Or.inl ⟨by rfl, fun w hw => by go_simp <;> exact IntWalk.i64_in _ (by omega)⟩) hHeld ?_
      refine wpAnyH_take (i := 13) (v := (.int .u8 (nc : Int))) rfl (by kernel_rfl) (by kernel_rfl) (by kernel_rfl) (fun _ _ _ h => h) (Or.inl ⟨by rfl, fun w hw => by go_simp <;> exact IntWalk.i64_in _ (by omega)⟩) hHeld ?_
      refine wpAnyH_take (i := 14) (v := (.int .i64 (nc : Int))) rfl (by kernel_rfl) (by kernel_rfl) (by kernel_rfl) (fun _ _ _ h => h) (Or.inl ⟨by rfl, fun w hw => by go_simp <;> exact IntWalk.i64_in _ (by omega)⟩) hHeld ?_
      refine wpAnyH_ready (rs := [15]) (by kernel_rfl) (by simp) ?_
      refine AllReadyH.cons rfl (fun K hK => ?_) AllReadyH.nil
      go_simp
      refine hK.out _ _ trivial (fun hHeld => ?_)
      clear hK K
      refine wpAnyH_ready (rs := [16]) (by kernel_rfl) (by simp) ?_
      refine AllReadyH.cons rfl (fun K hK => ?_) AllReadyH.nil
      go_simp
      refine hK.out _ _ trivial (fun hHeld => ?_)
      clear hK K hHeld hx5 hx6 hx7
      refine wpAnyH_done (by kernel_rfl) ?_ _
      refine NoPanic.normal ?_
      go_wp2
      obtain ⟨i91, hi91, hi0, hi1, hi2⟩ := info_parts info91
      have hq25 := Go.Proofs.YtefdokkadckbbaaGreatDoor.u39
      obtain ⟨gm, hgm⟩ : ∃ g, g = X2.heap.size := ⟨_, rfl⟩
      obtain ⟨V0, hV0⟩ : ∃ V, V = (X2.alloc (Obj.cells #[.int .i64 (na : Int), .int .i64 (nb : Int), .int .i64 (nc : Int)] 3)).drew := ⟨_, rfl⟩
      rw [← hgm, ← hV0]
      have hg0v : V0.heap[gm]? = some (.cells #[.int .i64 (na : Int), .int .i64 (nb : Int), .int .i64 (nc : Int)] 3 (0, 0)) := by rw [hV0, hgm]; exact heap_alloc_new X2 _
      have hz0v : V0.heap[w.heap.size]? = some (.cells #[.int .i64 0, .bool false, .int .i64 0, .string ⟨#[]⟩, .int .i64 0, .slice none 0 0, .slice none 0 0, .slice none 0 0] 27 (0, 0)) := by rw [hV0]; exact heap_alloc_old hz2 _
      have hy0v : V0.heap[w.heap.size + 1]? = some (.cells #[.int .i64 0, .bool false, .int .i64 0, .string ⟨#[]⟩, .int .i64 0, .slice none 0 0, .slice none 0 0, .slice none 0 0] 27 (0, 0)) := by rw [hV0]; exact heap_alloc_old hy2 _
      have hp0v : V0.heap[p]? = some (.cells #[.int .i64 (c0 + 256 * c1), .bool rb, .int .i64 c3, .string (mk (dotJoin l)), .int .i64 c4, .slice none 0 0, .slice none 0 0, .slice none 0 0] 27 (0, 0)) := by rw [hV0]; exact heap_alloc_old hp2 _
      have hB0v : Below w.heap.size w V0 := by rw [hV0]; exact (hB2.alloc hB2.size _).drew
      have hpg : p < gm := by rw [hgm]; exact (Array.getElem?_eq_some_iff.1 hp2).1
      have hgV : gm < V0.heap.size := (Array.getElem?_eq_some_iff.1 hg0v).1
      clear hgm hV0 hz2 hy2 hp2 hB2
      refine wp_loop_rounds 4 ?_
      rw [rounds_succ]
      have hw0 : w.heap.size ≤ V0.heap.size := hB0v.size
      obtain ⟨g0, g1, g2⟩ : V0.cell? ⟨gm, 0, none⟩ = some (.int .i64 (na : Int)) ∧ V0.cell? ⟨gm, 1, none⟩ = some (.int .i64 (nb : Int)) ∧ V0.cell? ⟨gm, 2, none⟩ = some (.int .i64 (nc : Int)) := ⟨by rw [cellB hg0v]; rfl, by rw [cellB hg0v]; rfl, by rw [cellB hg0v]; rfl⟩
      by_cases hbig0 : 10 < na
      · have HN : Hid (msgS (tl s) = none) := by show _ = _; rw [HT.out]; exact tail_b0 m1 m2 m3 HA.out HBb.out HC.out (by omega)
        have hbig' : (10 : Int) < (na : Int) := by omega
        obtain ⟨y0, y1, y2, y3, y4, y5, y6, y7⟩ := fill8_cells hy0v
        have yf : ∀ k, V0.frozen? ⟨w.heap.size + 1, k, none⟩ = false := fun k => frozen_of_row V0 _ k _ 27 hy0v
        obtain ⟨z0, z1, z2, z3, z4, z5, z6, z7⟩ := fill8_cells hz0v
        have zf : ∀ k, V0.frozen? ⟨w.heap.size, k, none⟩ = false := fun k => frozen_of_row V0 _ k _ 27 hz0v
        go_wp2
        obtain ⟨Y, hY⟩ : ∃ Y, Y = fill8 w.heap.size (.int .i64 0) (.bool false) (.int .i64 0) (.string ⟨#[]⟩) (.int .i64 0) (.slice none 0 0) (.slice none 0 0) (.slice none 0 0) V0 := ⟨_, rfl⟩
        have hYb : Y.heap[w.heap.size]? = some (.cells #[.int .i64 0, .bool false, .int .i64 0, .string ⟨#[]⟩, .int .i64 0, .slice none 0 0, .slice none 0 0, .slice none 0 0] 27 (0, 0)) := by rw [hY]; exact fill8_heap hz0v
        have hYB : Below w.heap.size w Y := by rw [hY]; exact below_fill hB0v (Nat.le_refl _)
        unfold fill8 at hY
        rw [← hY]
        clear hY y0 y1 y2 y3 y4 y5 y6 y7 yf z0 z1 z2 z3 z4 z5 z6 z7 zf
        obtain ⟨x0, x1, x2, x3, x4, x5, x6, x7⟩ := fill8_cells hYb
        refine bodyPost_ret (v := .tuple #[zMsg, .int .i64 2]) (by simp [results, Tryz.results126, go_sem, zMsg, x0, x1, x2, x3, x4, x5, x6, x7]) rfl ?_
        rw [HN.out]
        exact ⟨hYB, rfl⟩
      have hbig' : ¬ (10 : Int) < (na : Int) := by omega
      go_wp2
      clear g0 g1 g2 hbig'
      go_loopw [7, 10, 11] (fun at_ out k wr => ∃ (kk n : Nat) (rs : List Rec), kk ≤ na ∧ k = .int .i64 kk ∧ at_ = .int .i64 n ∧ n ≤ s.size ∧ rs.length ≤ kk ∧ kk ≤ rs.length ∧ wr.ownsRow V0.heap.size 71 5 out rs.length (rcells rs) ∧ Below V0.heap.size V0 wr ∧
          Aside (recsS (tl s) na (m + 4) = (recsS (tl s) (na - kk) n).map fun x => (rs ++ x.1, x.2))) (fun _ _ k _ => na - (intOf k).toNat)
      case atStart => exact ⟨0, (m + 4), [], Nat.zero_le _, rfl, by go_num, by omega, by simp, by simp, World.ownsRow_nil _ _ _ _, Below.refl _ _, by show _ = _; simp⟩
      case round =>
        obtain ⟨kk, n1, ra0, hkk, rfl, rfl, hns0, hr1, hr2, hown, hbv, hsp⟩ := hrel
        obtain ⟨sa0, sc0, rfl⟩ := own_shape hown
        have hgr := heap_below hg0v hbv
        have hzr := heap_below hz0v hbv
        have hyr := heap_below hy0v hbv
        have hpr := heap_below hp0v hbv
        have hBr := hB0v.trans (hbv.mono hB0v.size)
        obtain ⟨g0, g1, g2⟩ : wr.cell? ⟨gm, 0, none⟩ = some (.int .i64 (na : Int)) ∧ wr.cell? ⟨gm, 1, none⟩ = some (.int .i64 (nb : Int)) ∧ wr.cell? ⟨gm, 2, none⟩ = some (.int .i64 (nc : Int)) := ⟨by rw [cellB hgr]; rfl, by rw [cellB hgr]; rfl, by rw [cellB hgr]; rfl⟩
        by_cases hlt : kk < na
        · have L := record_ref' s n1 wr h1000 hns0
          cases hrec : recS (tl s) n1 with
          | none =>
            have HN : Hid (msgS (tl s) = none) := by
              show _ = _
              rw [HT.out]
              refine tail_r0 m1 m2 m3 HA.out HBb.out HC.out  ?_
              rw [hsp.out, show na - kk = (na - kk - 1) + 1 by omega]
              simp [recsS, hrec]
            go_wp2_with fail
            refine (RRes.no L hrec).mono ?_
            rintro e w5 ⟨rfl, hb5⟩
            have hz5 := heap_below hzr hb5
            have hy5 := heap_below hyr hb5
            have hB5 := hBr.trans (hb5.mono hBr.size)
            have lt1 : w.heap.size < w5.heap.size := (Array.getElem?_eq_some_iff.1 hz5).1
            have lt2 : w.heap.size + 1 < w5.heap.size := (Array.getElem?_eq_some_iff.1 hy5).1
            have ne1 : w.heap.size ≠ w5.heap.size := by omega
            have ne2 : w.heap.size + 1 ≠ w5.heap.size := by omega
            have ne3 : w5.heap.size ≠ w.heap.size + 1 := by omega
            unfold recV
            obtain ⟨y0, y1, y2, y3, y4, y5, y6, y7⟩ := fill8_cells hy5
            have yf : ∀ k, w5.frozen? ⟨w.heap.size + 1, k, none⟩ = false := fun k => frozen_of_row w5 _ k _ 27 hy5
            obtain ⟨z0, z1, z2, z3, z4, z5, z6, z7⟩ := fill8_cells hz5
            have zf : ∀ k, w5.frozen? ⟨w.heap.size, k, none⟩ = false := fun k => frozen_of_row w5 _ k _ 27 hz5
            go_wp2
            obtain ⟨Y, hY⟩ : ∃ Y, Y = (fill8 w.heap.size (.int .i64 0) (.bool false) (.int .i64 0) (.string ⟨#[]⟩) (.int .i64 0) (.slice none 0 0) (.slice none 0 0) (.slice none 0 0) w5).alloc (.cells #[.string ⟨#[]⟩, .int .i64 0, .int .i64 0, .int .i64 0, .string ⟨#[]⟩] 71) := ⟨_, rfl⟩
            have hYb : Y.heap[w.heap.size]? = some (.cells #[.int .i64 0, .bool false, .int .i64 0, .string ⟨#[]⟩, .int .i64 0, .slice none 0 0, .slice none 0 0, .slice none 0 0] 27 (0, 0)) := by rw [hY]; exact heap_alloc_old (fill8_heap hz5) _
            have hYB : Below w.heap.size w Y := by rw [hY]; exact (below_fill hB5 (Nat.le_refl _)).alloc (by rw [fill8_size]; exact hB5.size) _
            unfold fill8 at hY
            rw [← hY]
            clear hY y0 y1 y2 y3 y4 y5 y6 y7 yf z0 z1 z2 z3 z4 z5 z6 z7 zf
            obtain ⟨x0, x1, x2, x3, x4, x5, x6, x7⟩ := fill8_cells hYb
            refine bodyPost_ret (v := .tuple #[zMsg, .int .i64 2]) (by simp [results, Tryz.results126, go_sem, zMsg, x0, x1, x2, x3, x4, x5, x6, x7]) rfl ?_
            rw [HN.out]
            exact ⟨hYB, rfl⟩
          | some y =>
            obtain ⟨r, n'⟩ := y
            obtain ⟨bn, bn'⟩ := recS_bd hrec
            rw [tl_length] at bn'
            have HX : Hid (recsS (tl s) na (m + 4) = (recsS (tl s) (na - (kk + 1)) n').map fun x => ((ra0 ++ [r]) ++ x.1, x.2)) := by
              show _ = _
              rw [hsp.out, show na - kk = (na - (kk + 1)) + 1 by omega]
              simp only [recsS, hrec, Option.bind_some]
              cases recsS (tl s) (na - (kk + 1)) n' <;> simp
            go_wp2_with fail
            refine (RRes.ok L hrec).mono ?_
            rintro e w5 ⟨rfl, hb5⟩
            have hown1 := hown.below hb5
            obtain ⟨r0, r1, r2, r3, r4⟩ := r
            unfold recV
            clear g0 g1 g2
            go_wp2_with (first
              | (at_builtin; refine wpList_append_own _ rfl _ _ 25 rfl V0.heap.size 71 i91 (.agg #[.string ByteArray.empty, .int .i64 0, .int .i64 0, .int .i64 0, .string ByteArray.empty]) 5 56 hq25 hi91 hi0 hi1 hi2 rfl (by decide) _ _ _ rfl ((hown1.alloc _).alloc _) ⟨w5.heap.size + 1, 0, none⟩ 1 1 (rc1 ⟨r0, r1, r2, r3, r4⟩) rfl rfl ?d1 ?d2 ?d3 ?d4 ?d5 ?_))
            case d1 =>
              intro j u hj
              have e : (⟨w5.heap.size + 1, 0, none⟩ : Addr).add j = ⟨w5.heap.size + 1, j, none⟩ := by unfold Addr.add; split <;> simp_all
              rw [e]
              simpa [rc1] using hj
            case d2 => exact rc1_one _
            case d3 => unfold maxLen; omega
            case d4 => omega
            case d5 => have := hbv.size; have := hb5.size; simp; omega
            intro v' w6 hown' hgrow _
            have R3 := rl_step hown hbv hb5 hown' hgrow
            clear hown' hgrow hown hown1
            go_wp2
            go_roundw
            case rel => exact ⟨kk + 1, n', ra0 ++ [(⟨r0, r1, r2, r3, r4⟩ : Rec)], hlt, by go_num, by go_num, bn', by simp; omega, by simp; omega, R3.1, R3.2, HX.out⟩
            case measure => simp [intOf]; omega
        · have HQ0 : Hid (recsS (tl s) na (m + 4) = some (ra0, n1)) := by show _ = _; rw [hsp.out, show na - kk = 0 by omega]; simp [recsS]
          clear hsp
          obtain ⟨x0, x1, x2, x3, x4, x5, x6, x7⟩ := fill8_cells hpr
          have xf : ∀ k, wr.frozen? ⟨p, k, none⟩ = false := fun k => frozen_of_row wr _ k _ 27 hpr
          go_wp2
          clear x0 x1 x2 x3 x4 x5 x6 x7 xf g0 g1 g2
          obtain ⟨V1, hVx⟩ : ∃ V, V = wr.setCell ⟨p, 5, none⟩ (.slice sa0 ra0.length sc0) := ⟨_, rfl⟩
          rw [← hVx]
          have hp1v : V1.heap[p]? = some (.cells #[.int .i64 (c0 + 256 * c1), .bool rb, .int .i64 c3, .string (mk (dotJoin l)), .int .i64 c4, .slice sa0 ra0.length sc0, .slice none 0 0, .slice none 0 0] 27 (0, 0)) := by rw [hVx, heap_setCell_same _ p 5 _ 27 _ hpr]; rfl
          have hz1v : V1.heap[w.heap.size]? = some (.cells #[.int .i64 0, .bool false, .int .i64 0, .string ⟨#[]⟩, .int .i64 0, .slice none 0 0, .slice none 0 0, .slice none 0 0] 27 (0, 0)) := by rw [hVx, Below.heap_setCell _ ⟨p, 5, none⟩ _ _ (by show _ ≠ p; omega)]; exact hzr
          have hy1v : V1.heap[w.heap.size + 1]? = some (.cells #[.int .i64 0, .bool false, .int .i64 0, .string ⟨#[]⟩, .int .i64 0, .slice none 0 0, .slice none 0 0, .slice none 0 0] 27 (0, 0)) := by rw [hVx, Below.heap_setCell _ ⟨p, 5, none⟩ _ _ (by show _ ≠ p; omega)]; exact hyr
          have hg1v : V1.heap[gm]? = some (.cells #[.int .i64 (na : Int), .int .i64 (nb : Int), .int .i64 (nc : Int)] 3 (0, 0)) := by rw [hVx, Below.heap_setCell _ ⟨p, 5, none⟩ _ _ (by show _ ≠ p; omega)]; exact hgr
          have hB1v : Below w.heap.size w V1 := by rw [hVx]; exact hBr.setCell (by show _ ≤ p; omega) _
          have hs1v : V0.heap.size ≤ V1.heap.size := by rw [hVx, World.size_setCell]; exact hbv.size
          have K0_0 : Lst V0.heap.size V1.heap.size V1 (.slice sa0 ra0.length sc0) ra0 := by
            rw [hVx, World.size_setCell]
            exact Lst.box ⟨hown, fun k hk => (hown.lt k hk).2⟩ (by omega) _ _
          clear hVx hpr hzr hyr hgr hBr hbv hown hp0v hz0v hy0v hg0v hB0v 
          rw [rounds_succ]
          have hw1 : w.heap.size ≤ V1.heap.size := hB1v.size
          obtain ⟨g0, g1, g2⟩ : V1.cell? ⟨gm, 0, none⟩ = some (.int .i64 (na : Int)) ∧ V1.cell? ⟨gm, 1, none⟩ = some (.int .i64 (nb : Int)) ∧ V1.cell? ⟨gm, 2, none⟩ = some (.int .i64 (nc : Int)) := ⟨by rw [cellB hg1v]; rfl, by rw [cellB hg1v]; rfl, by rw [cellB hg1v]; rfl⟩
          by_cases hbig1 : 10 < nb
          · have HN : Hid (msgS (tl s) = none) := by show _ = _; rw [HT.out]; exact tail_b1 m1 m2 m3 HA.out HBb.out HC.out (by omega)
            have hbig' : (10 : Int) < (nb : Int) := by omega
            obtain ⟨y0, y1, y2, y3, y4, y5, y6, y7⟩ := fill8_cells hy1v
            have yf : ∀ k, V1.frozen? ⟨w.heap.size + 1, k, none⟩ = false := fun k => frozen_of_row V1 _ k _ 27 hy1v
            obtain ⟨z0, z1, z2, z3, z4, z5, z6, z7⟩ := fill8_cells hz1v
            have zf : ∀ k, V1.frozen? ⟨w.heap.size, k, none⟩ = false := fun k => frozen_of_row V1 _ k _ 27 hz1v
            go_wp2
            obtain ⟨Y, hY⟩ : ∃ Y, Y = fill8 w.heap.size (.int .i64 0) (.bool false) (.int .i64 0) (.string ⟨#[]⟩) (.int .i64 0) (.slice none 0 0) (.slice none 0 0) (.slice none 0 0) V1 := ⟨_, rfl⟩
            have hYb : Y.heap[w.heap.size]? = some (.cells #[.int .i64 0, .bool false, .int .i64 0, .string ⟨#[]⟩, .int .i64 0, .slice none 0 0, .slice none 0 0, .slice none 0 0] 27 (0, 0)) := by rw [hY]; exact fill8_heap hz1v
            have hYB : Below w.heap.size w Y := by rw [hY]; exact below_fill hB1v (Nat.le_refl _)
            unfold fill8 at hY
            rw [← hY]
            clear hY y0 y1 y2 y3 y4 y5 y6 y7 yf z0 z1 z2 z3 z4 z5 z6 z7 zf
            obtain ⟨x0, x1, x2, x3, x4, x5, x6, x7⟩ := fill8_cells hYb
            refine bodyPost_ret (v := .tuple #[zMsg, .int .i64 2]) (by simp [results, Tryz.results126, go_sem, zMsg, x0, x1, x2, x3, x4, x5, x6, x7]) rfl ?_
            rw [HN.out]
            exact ⟨hYB, rfl⟩
          have hbig' : ¬ (10 : Int) < (nb : Int) := by omega
          go_wp2
          clear g0 g1 g2 hbig'
          go_loopw [7, 10, 11] (fun at_ out k wr => ∃ (kk n : Nat) (rs : List Rec), kk ≤ nb ∧ k = .int .i64 kk ∧ at_ = .int .i64 n ∧ n ≤ s.size ∧ rs.length ≤ kk ∧ kk ≤ rs.length ∧ wr.ownsRow V1.heap.size 71 5 out rs.length (rcells rs) ∧ Below V1.heap.size V1 wr ∧
              Aside (recsS (tl s) nb n1 = (recsS (tl s) (nb - kk) n).map fun x => (rs ++ x.1, x.2))) (fun _ _ k _ => nb - (intOf k).toNat)
          case atStart => exact ⟨0, n1, [], Nat.zero_le _, rfl, by go_num, by omega, by simp, by simp, World.ownsRow_nil _ _ _ _, Below.refl _ _, by show _ = _; simp⟩
          case round =>
            obtain ⟨kk, n2, ra1, hkk, rfl, rfl, hns1, hr1, hr2, hown, hbv, hsp⟩ := hrel
            obtain ⟨sa1, sc1, rfl⟩ := own_shape hown
            have hgr := heap_below hg1v hbv
            have hzr := heap_below hz1v hbv
            have hyr := heap_below hy1v hbv
            have hpr := heap_below hp1v hbv
            have hBr := hB1v.trans (hbv.mono hB1v.size)
            obtain ⟨g0, g1, g2⟩ : wr.cell? ⟨gm, 0, none⟩ = some (.int .i64 (na : Int)) ∧ wr.cell? ⟨gm, 1, none⟩ = some (.int .i64 (nb : Int)) ∧ wr.cell? ⟨gm, 2, none⟩ = some (.int .i64 (nc : Int)) := ⟨by rw [cellB hgr]; rfl, by rw [cellB hgr]; rfl, by rw [cellB hgr]; rfl⟩
            by_cases hlt : kk < nb
            · have L := record_ref' s n2 wr h1000 hns1
              cases hrec : recS (tl s) n2 with
              | none =>
                have HN : Hid (msgS (tl s) = none) := by
                  show _ = _
                  rw [HT.out]
                  refine tail_r1 m1 m2 m3 HA.out HBb.out HC.out HQ0.out ?_
                  rw [hsp.out, show nb - kk = (nb - kk - 1) + 1 by omega]
                  simp [recsS, hrec]
                go_wp2_with fail
                refine (RRes.no L hrec).mono ?_
                rintro e w5 ⟨rfl, hb5⟩
                have hz5 := heap_below hzr hb5
                have hy5 := heap_below hyr hb5
                have hB5 := hBr.trans (hb5.mono hBr.size)
                have lt1 : w.heap.size < w5.heap.size := (Array.getElem?_eq_some_iff.1 hz5).1
                have lt2 : w.heap.size + 1 < w5.heap.size := (Array.getElem?_eq_some_iff.1 hy5).1
                have ne1 : w.heap.size ≠ w5.heap.size := by omega
                have ne2 : w.heap.size + 1 ≠ w5.heap.size := by omega
                have ne3 : w5.heap.size ≠ w.heap.size + 1 := by omega
                unfold recV
                obtain ⟨y0, y1, y2, y3, y4, y5, y6, y7⟩ := fill8_cells hy5
                have yf : ∀ k, w5.frozen? ⟨w.heap.size + 1, k, none⟩ = false := fun k => frozen_of_row w5 _ k _ 27 hy5
                obtain ⟨z0, z1, z2, z3, z4, z5, z6, z7⟩ := fill8_cells hz5
                have zf : ∀ k, w5.frozen? ⟨w.heap.size, k, none⟩ = false := fun k => frozen_of_row w5 _ k _ 27 hz5
                go_wp2
                obtain ⟨Y, hY⟩ : ∃ Y, Y = (fill8 w.heap.size (.int .i64 0) (.bool false) (.int .i64 0) (.string ⟨#[]⟩) (.int .i64 0) (.slice none 0 0) (.slice none 0 0) (.slice none 0 0) w5).alloc (.cells #[.string ⟨#[]⟩, .int .i64 0, .int .i64 0, .int .i64 0, .string ⟨#[]⟩] 71) := ⟨_, rfl⟩
                have hYb : Y.heap[w.heap.size]? = some (.cells #[.int .i64 0, .bool false, .int .i64 0, .string ⟨#[]⟩, .int .i64 0, .slice none 0 0, .slice none 0 0, .slice none 0 0] 27 (0, 0)) := by rw [hY]; exact heap_alloc_old (fill8_heap hz5) _
                have hYB : Below w.heap.size w Y := by rw [hY]; exact (below_fill hB5 (Nat.le_refl _)).alloc (by rw [fill8_size]; exact hB5.size) _
                unfold fill8 at hY
                rw [← hY]
                clear hY y0 y1 y2 y3 y4 y5 y6 y7 yf z0 z1 z2 z3 z4 z5 z6 z7 zf
                obtain ⟨x0, x1, x2, x3, x4, x5, x6, x7⟩ := fill8_cells hYb
                refine bodyPost_ret (v := .tuple #[zMsg, .int .i64 2]) (by simp [results, Tryz.results126, go_sem, zMsg, x0, x1, x2, x3, x4, x5, x6, x7]) rfl ?_
                rw [HN.out]
                exact ⟨hYB, rfl⟩
              | some y =>
                obtain ⟨r, n'⟩ := y
                obtain ⟨bn, bn'⟩ := recS_bd hrec
                rw [tl_length] at bn'
                have HX : Hid (recsS (tl s) nb n1 = (recsS (tl s) (nb - (kk + 1)) n').map fun x => ((ra1 ++ [r]) ++ x.1, x.2)) := by
                  show _ = _
                  rw [hsp.out, show nb - kk = (nb - (kk + 1)) + 1 by omega]
                  simp only [recsS, hrec, Option.bind_some]
                  cases recsS (tl s) (nb - (kk + 1)) n' <;> simp
                go_wp2_with fail
                refine (RRes.ok L hrec).mono ?_
                rintro e w5 ⟨rfl, hb5⟩
                have hown1 := hown.below hb5
                obtain ⟨r0, r1, r2, r3, r4⟩ := r
                unfold recV
                clear g0 g1 g2
                go_wp2_with (first
                  | (at_builtin; refine wpList_append_own _ rfl _ _ 25 rfl V1.heap.size 71 i91 (.agg #[.string ByteArray.empty, .int .i64 0, .int .i64 0, .int .i64 0, .string ByteArray.empty]) 5 56 hq25 hi91 hi0 hi1 hi2 rfl (by decide) _ _ _ rfl ((hown1.alloc _).alloc _) ⟨w5.heap.size + 1, 0, none⟩ 1 1 (rc1 ⟨r0, r1, r2, r3, r4⟩) rfl rfl ?d1 ?d2 ?d3 ?d4 ?d5 ?_))
                case d1 =>
                  intro j u hj
                  have e : (⟨w5.heap.size + 1, 0, none⟩ : Addr).add j = ⟨w5.heap.size + 1, j, none⟩ := by unfold Addr.add; split <;> simp_all
                  rw [e]
                  simpa [rc1] using hj
                case d2 => exact rc1_one _
                case d3 => unfold maxLen; omega
                case d4 => omega
                case d5 => have := hbv.size; have := hb5.size; simp; omega
                intro v' w6 hown' hgrow _
                have R3 := rl_step hown hbv hb5 hown' hgrow
                clear hown' hgrow hown hown1
                go_wp2
                go_roundw
                case rel => exact ⟨kk + 1, n', ra1 ++ [(⟨r0, r1, r2, r3, r4⟩ : Rec)], hlt, by go_num, by go_num, bn', by simp; omega, by simp; omega, R3.1, R3.2, HX.out⟩
                case measure => simp [intOf]; omega
            · have HQ1 : Hid (recsS (tl s) nb n1 = some (ra1, n2)) := by show _ = _; rw [hsp.out, show nb - kk = 0 by omega]; simp [recsS]
              clear hsp
              obtain ⟨x0, x1, x2, x3, x4, x5, x6, x7⟩ := fill8_cells hpr
              have xf : ∀ k, wr.frozen? ⟨p, k, none⟩ = false := fun k => frozen_of_row wr _ k _ 27 hpr
              go_wp2
              clear x0 x1 x2 x3 x4 x5 x6 x7 xf g0 g1 g2
              obtain ⟨V2, hVx⟩ : ∃ V, V = wr.setCell ⟨p, 6, none⟩ (.slice sa1 ra1.length sc1) := ⟨_, rfl⟩
              rw [← hVx]
              have hp2v : V2.heap[p]? = some (.cells #[.int .i64 (c0 + 256 * c1), .bool rb, .int .i64 c3, .string (mk (dotJoin l)), .int .i64 c4, .slice sa0 ra0.length sc0, .slice sa1 ra1.length sc1, .slice none 0 0] 27 (0, 0)) := by rw [hVx, heap_setCell_same _ p 6 _ 27 _ hpr]; rfl
              have hz2v : V2.heap[w.heap.size]? = some (.cells #[.int .i64 0, .bool false, .int .i64 0, .string ⟨#[]⟩, .int .i64 0, .slice none 0 0, .slice none 0 0, .slice none 0 0] 27 (0, 0)) := by rw [hVx, Below.heap_setCell _ ⟨p, 6, none⟩ _ _ (by show _ ≠ p; omega)]; exact hzr
              have hy2v : V2.heap[w.heap.size + 1]? = some (.cells #[.int .i64 0, .bool false, .int .i64 0, .string ⟨#[]⟩, .int .i64 0, .slice none 0 0, .slice none 0 0, .slice none 0 0] 27 (0, 0)) := by rw [hVx, Below.heap_setCell _ ⟨p, 6, none⟩ _ _ (by show _ ≠ p; omega)]; exact hyr
              have hg2v : V2.heap[gm]? = some (.cells #[.int .i64 (na : Int), .int .i64 (nb : Int), .int .i64 (nc : Int)] 3 (0, 0)) := by rw [hVx, Below.heap_setCell _ ⟨p, 6, none⟩ _ _ (by show _ ≠ p; omega)]; exact hgr
              have hB2v : Below w.heap.size w V2 := by rw [hVx]; exact hBr.setCell (by show _ ≤ p; omega) _
              have hs2v : V1.heap.size ≤ V2.heap.size := by rw [hVx, World.size_setCell]; exact hbv.size
              have K1_1 : Lst V1.heap.size V2.heap.size V2 (.slice sa1 ra1.length sc1) ra1 := by
                rw [hVx, World.size_setCell]
                exact Lst.box ⟨hown, fun k hk => (hown.lt k hk).2⟩ (by omega) _ _
              have K0_1 : Lst V0.heap.size V1.heap.size V2 (.slice sa0 ra0.length sc0) ra0 := by
                rw [hVx]
                exact (Lst.below K0_0 hbv).box (by omega) _ _
              clear hVx hpr hzr hyr hgr hBr hbv hown hp1v hz1v hy1v hg1v hB1v K0_0
              rw [rounds_succ]
              have hw2 : w.heap.size ≤ V2.heap.size := hB2v.size
              obtain ⟨g0, g1, g2⟩ : V2.cell? ⟨gm, 0, none⟩ = some (.int .i64 (na : Int)) ∧ V2.cell? ⟨gm, 1, none⟩ = some (.int .i64 (nb : Int)) ∧ V2.cell? ⟨gm, 2, none⟩ = some (.int .i64 (nc : Int)) := ⟨by rw [cellB hg2v]; rfl, by rw [cellB hg2v]; rfl, by rw [cellB hg2v]; rfl⟩
              by_cases hbig2 : 10 < nc
              · have HN : Hid (msgS (tl s) = none) := by show _ = _; rw [HT.out]; exact tail_b2 m1 m2 m3 HA.out HBb.out HC.out (by omega)
                have hbig' : (10 : Int) < (nc : Int) := by omega
                obtain ⟨y0, y1, y2, y3, y4, y5, y6, y7⟩ := fill8_cells hy2v
                have yf : ∀ k, V2.frozen? ⟨w.heap.size + 1, k, none⟩ = false := fun k => frozen_of_row V2 _ k _ 27 hy2v
                obtain ⟨z0, z1, z2, z3, z4, z5, z6, z7⟩ := fill8_cells hz2v
                have zf : ∀ k, V2.frozen? ⟨w.heap.size, k, none⟩ = false := fun k => frozen_of_row V2 _ k _ 27 hz2v
                go_wp2
                obtain ⟨Y, hY⟩ : ∃ Y, Y = fill8 w.heap.size (.int .i64 0) (.bool false) (.int .i64 0) (.string ⟨#[]⟩) (.int .i64 0) (.slice none 0 0) (.slice none 0 0) (.slice none 0 0) V2 := ⟨_, rfl⟩
                have hYb : Y.heap[w.heap.size]? = some (.cells #[.int .i64 0, .bool false, .int .i64 0, .string ⟨#[]⟩, .int .i64 0, .slice none 0 0, .slice none 0 0, .slice none 0 0] 27 (0, 0)) := by rw [hY]; exact fill8_heap hz2v
                have hYB : Below w.heap.size w Y := by rw [hY]; exact below_fill hB2v (Nat.le_refl _)
                unfold fill8 at hY
                rw [← hY]
                clear hY y0 y1 y2 y3 y4 y5 y6 y7 yf z0 z1 z2 z3 z4 z5 z6 z7 zf
                obtain ⟨x0, x1, x2, x3, x4, x5, x6, x7⟩ := fill8_cells hYb
                refine bodyPost_ret (v := .tuple #[zMsg, .int .i64 2]) (by simp [results, Tryz.results126, go_sem, zMsg, x0, x1, x2, x3, x4, x5, x6, x7]) rfl ?_
                rw [HN.out]
                exact ⟨hYB, rfl⟩
              have hbig' : ¬ (10 : Int) < (nc : Int) := by omega
              go_wp2
              clear g0 g1 g2 hbig'
              go_loopw [7, 10, 11] (fun at_ out k wr => ∃ (kk n : Nat) (rs : List Rec), kk ≤ nc ∧ k = .int .i64 kk ∧ at_ = .int .i64 n ∧ n ≤ s.size ∧ rs.length ≤ kk ∧ kk ≤ rs.length ∧ wr.ownsRow V2.heap.size 71 5 out rs.length (rcells rs) ∧ Below V2.heap.size V2 wr ∧
                  Aside (recsS (tl s) nc n2 = (recsS (tl s) (nc - kk) n).map fun x => (rs ++ x.1, x.2))) (fun _ _ k _ => nc - (intOf k).toNat)
              case atStart => exact ⟨0, n2, [], Nat.zero_le _, rfl, by go_num, by omega, by simp, by simp, World.ownsRow_nil _ _ _ _, Below.refl _ _, by show _ = _; simp⟩
              case round =>
                obtain ⟨kk, n3, ra2, hkk, rfl, rfl, hns2, hr1, hr2, hown, hbv, hsp⟩ := hrel
                obtain ⟨sa2, sc2, rfl⟩ := own_shape hown
                have hgr := heap_below hg2v hbv
                have hzr := heap_below hz2v hbv
                have hyr := heap_below hy2v hbv
                have hpr := heap_below hp2v hbv
                have hBr := hB2v.trans (hbv.mono hB2v.size)
                obtain ⟨g0, g1, g2⟩ : wr.cell? ⟨gm, 0, none⟩ = some (.int .i64 (na : Int)) ∧ wr.cell? ⟨gm, 1, none⟩ = some (.int .i64 (nb : Int)) ∧ wr.cell? ⟨gm, 2, none⟩ = some (.int .i64 (nc : Int)) := ⟨by rw [cellB hgr]; rfl, by rw [cellB hgr]; rfl, by rw [cellB hgr]; rfl⟩
                by_cases hlt : kk < nc
                · have L := record_ref' s n3 wr h1000 hns2
                  cases hrec : recS (tl s) n3 with
                  | none =>
                    have HN : Hid (msgS (tl s) = none) := by
                      show _ = _
                      rw [HT.out]
                      refine tail_r2 m1 m2 m3 HA.out HBb.out HC.out HQ0.out HQ1.out ?_
                      rw [hsp.out, show nc - kk = (nc - kk - 1) + 1 by omega]
                      simp [recsS, hrec]
                    go_wp2_with fail
                    refine (RRes.no L hrec).mono ?_
                    rintro e w5 ⟨rfl, hb5⟩
                    have hz5 := heap_below hzr hb5
                    have hy5 := heap_below hyr hb5
                    have hB5 := hBr.trans (hb5.mono hBr.size)
                    have lt1 : w.heap.size < w5.heap.size := (Array.getElem?_eq_some_iff.1 hz5).1
                    have lt2 : w.heap.size + 1 < w5.heap.size := (Array.getElem?_eq_some_iff.1 hy5).1
                    have ne1 : w.heap.size ≠ w5.heap.size := by omega
                    have ne2 : w.heap.size + 1 ≠ w5.heap.size := by omega
                    have ne3 : w5.heap.size ≠ w.heap.size + 1 := by omega
                    unfold recV
                    obtain ⟨y0, y1, y2, y3, y4, y5, y6, y7⟩ := fill8_cells hy5
                    have yf : ∀ k, w5.frozen? ⟨w.heap.size + 1, k, none⟩ = false := fun k => frozen_of_row w5 _ k _ 27 hy5
                    obtain ⟨z0, z1, z2, z3, z4, z5, z6, z7⟩ := fill8_cells hz5
                    have zf : ∀ k, w5.frozen? ⟨w.heap.size, k, none⟩ = false := fun k => frozen_of_row w5 _ k _ 27 hz5
                    go_wp2
                    obtain ⟨Y, hY⟩ : ∃ Y, Y = (fill8 w.heap.size (.int .i64 0) (.bool false) (.int .i64 0) (.string ⟨#[]⟩) (.int .i64 0) (.slice none 0 0) (.slice none 0 0) (.slice none 0 0) w5).alloc (.cells #[.string ⟨#[]⟩, .int .i64 0, .int .i64 0, .int .i64 0, .string ⟨#[]⟩] 71) := ⟨_, rfl⟩
                    have hYb : Y.heap[w.heap.size]? = some (.cells #[.int .i64 0, .bool false, .int .i64 0, .string ⟨#[]⟩, .int .i64 0, .slice none 0 0, .slice none 0 0, .slice none 0 0] 27 (0, 0)) := by rw [hY]; exact heap_alloc_old (fill8_heap hz5) _
                    have hYB : Below w.heap.size w Y := by rw [hY]; exact (below_fill hB5 (Nat.le_refl _)).alloc (by rw [fill8_size]; exact hB5.size) _
                    unfold fill8 at hY
                    rw [← hY]
                    clear hY y0 y1 y2 y3 y4 y5 y6 y7 yf z0 z1 z2 z3 z4 z5 z6 z7 zf
                    obtain ⟨x0, x1, x2, x3, x4, x5, x6, x7⟩ := fill8_cells hYb
                    refine bodyPost_ret (v := .tuple #[zMsg, .int .i64 2]) (by simp [results, Tryz.results126, go_sem, zMsg, x0, x1, x2, x3, x4, x5, x6, x7]) rfl ?_
                    rw [HN.out]
                    exact ⟨hYB, rfl⟩
                  | some y =>
                    obtain ⟨r, n'⟩ := y
                    obtain ⟨bn, bn'⟩ := recS_bd hrec
                    rw [tl_length] at bn'
                    have HX : Hid (recsS (tl s) nc n2 = (recsS (tl s) (nc - (kk + 1)) n').map fun x => ((ra2 ++ [r]) ++ x.1, x.2)) := by
                      show _ = _
                      rw [hsp.out, show nc - kk = (nc - (kk + 1)) + 1 by omega]
                      simp only [recsS, hrec, Option.bind_some]
                      cases recsS (tl s) (nc - (kk + 1)) n' <;> simp
                    go_wp2_with fail
                    refine (RRes.ok L hrec).mono ?_
                    rintro e w5 ⟨rfl, hb5⟩
                    have hown1 := hown.below hb5
                    obtain ⟨r0, r1, r2, r3, r4⟩ := r
                    unfold recV
                    clear g0 g1 g2
                    go_wp2_with (first
                      | (at_builtin; refine wpList_append_own _ rfl _ _ 25 rfl V2.heap.size 71 i91 (.agg #[.string ByteArray.empty, .int .i64 0, .int .i64 0, .int .i64 0, .string ByteArray.empty]) 5 56 hq25 hi91 hi0 hi1 hi2 rfl (by decide) _ _ _ rfl ((hown1.alloc _).alloc _) ⟨w5.heap.size + 1, 0, none⟩ 1 1 (rc1 ⟨r0, r1, r2, r3, r4⟩) rfl rfl ?d1 ?d2 ?d3 ?d4 ?d5 ?_))
                    case d1 =>
                      intro j u hj
                      have e : (⟨w5.heap.size + 1, 0, none⟩ : Addr).add j = ⟨w5.heap.size + 1, j, none⟩ := by unfold Addr.add; split <;> simp_all
                      rw [e]
                      simpa [rc1] using hj
                    case d2 => exact rc1_one _
                    case d3 => unfold maxLen; omega
                    case d4 => omega
                    case d5 => have := hbv.size; have := hb5.size; simp; omega
                    intro v' w6 hown' hgrow _
                    have R3 := rl_step hown hbv hb5 hown' hgrow
                    clear hown' hgrow hown hown1
                    go_wp2
                    go_roundw
                    case rel => exact ⟨kk + 1, n', ra2 ++ [(⟨r0, r1, r2, r3, r4⟩ : Rec)], hlt, by go_num, by go_num, bn', by simp; omega, by simp; omega, R3.1, R3.2, HX.out⟩
                    case measure => simp [intOf]; omega
                · have HQ2 : Hid (recsS (tl s) nc n2 = some (ra2, n3)) := by show _ = _; rw [hsp.out, show nc - kk = 0 by omega]; simp [recsS]
                  clear hsp
                  obtain ⟨x0, x1, x2, x3, x4, x5, x6, x7⟩ := fill8_cells hpr
                  have xf : ∀ k, wr.frozen? ⟨p, k, none⟩ = false := fun k => frozen_of_row wr _ k _ 27 hpr
                  go_wp2
                  clear x0 x1 x2 x3 x4 x5 x6 x7 xf g0 g1 g2
                  obtain ⟨V3, hVx⟩ : ∃ V, V = wr.setCell ⟨p, 7, none⟩ (.slice sa2 ra2.length sc2) := ⟨_, rfl⟩
                  rw [← hVx]
                  have hp3v : V3.heap[p]? = some (.cells #[.int .i64 (c0 + 256 * c1), .bool rb, .int .i64 c3, .string (mk (dotJoin l)), .int .i64 c4, .slice sa0 ra0.length sc0, .slice sa1 ra1.length sc1, .slice sa2 ra2.length sc2] 27 (0, 0)) := by rw [hVx, heap_setCell_same _ p 7 _ 27 _ hpr]; rfl
                  have hz3v : V3.heap[w.heap.size]? = some (.cells #[.int .i64 0, .bool false, .int .i64 0, .string ⟨#[]⟩, .int .i64 0, .slice none 0 0, .slice none 0 0, .slice none 0 0] 27 (0, 0)) := by rw [hVx, Below.heap_setCell _ ⟨p, 7, none⟩ _ _ (by show _ ≠ p; omega)]; exact hzr
                  have hy3v : V3.heap[w.heap.size + 1]? = some (.cells #[.int .i64 0, .bool false, .int .i64 0, .string ⟨#[]⟩, .int .i64 0, .slice none 0 0, .slice none 0 0, .slice none 0 0] 27 (0, 0)) := by rw [hVx, Below.heap_setCell _ ⟨p, 7, none⟩ _ _ (by show _ ≠ p; omega)]; exact hyr
                  have hg3v : V3.heap[gm]? = some (.cells #[.int .i64 (na : Int), .int .i64 (nb : Int), .int .i64 (nc : Int)] 3 (0, 0)) := by rw [hVx, Below.heap_setCell _ ⟨p, 7, none⟩ _ _ (by show _ ≠ p; omega)]; exact hgr
                  have hB3v : Below w.heap.size w V3 := by rw [hVx]; exact hBr.setCell (by show _ ≤ p; omega) _
                  have hs3v : V2.heap.size ≤ V3.heap.size := by rw [hVx, World.size_setCell]; exact hbv.size
                  have K2_2 : Lst V2.heap.size V3.heap.size V3 (.slice sa2 ra2.length sc2) ra2 := by
                    rw [hVx, World.size_setCell]
                    exact Lst.box ⟨hown, fun k hk => (hown.lt k hk).2⟩ (by omega) _ _
                  have K0_2 : Lst V0.heap.size V1.heap.size V3 (.slice sa0 ra0.length sc0) ra0 := by
                    rw [hVx]
                    exact (Lst.below K0_1 hbv).box (by omega) _ _
                  have K1_2 : Lst V1.heap.size V2.heap.size V3 (.slice sa1 ra1.length sc1) ra1 := by
                    rw [hVx]
                    exact (Lst.below K1_1 hbv).box (by omega) _ _
                  clear hVx hpr hzr hyr hgr hBr hbv hown hp2v hz2v hy2v hg2v hB2v K0_1 K1_1
                  rw [rounds_succ]
                  by_cases hend : n3 = s.size
                  · have HF : Hid (msgS (tl s) = some ⟨c0 + 256 * c1, rb, c3, mk (dotJoin l), c4, ra0, ra1, ra2⟩) := by
                      show _ = _
                      rw [HT.out, tail_end m1 m2 m3 HA.out HBb.out HC.out (by omega) (by omega) (by omega) HQ0.out HQ1.out HQ2.out, if_pos hend]
                    clear HQ0 HQ1 HQ2
                    subst hend
                    obtain ⟨x0, x1, x2, x3, x4, x5, x6, x7⟩ := fill8_cells hp3v
                    have xf : ∀ k, V3.frozen? ⟨p, k, none⟩ = false := fun k => frozen_of_row V3 _ k _ 27 hp3v
                    obtain ⟨y0, y1, y2, y3, y4, y5, y6, y7⟩ := fill8_cells hy3v
                    have yf : ∀ k, V3.frozen? ⟨w.heap.size + 1, k, none⟩ = false := fun k => frozen_of_row V3 _ k _ 27 hy3v
                    obtain ⟨z0, z1, z2, z3, z4, z5, z6, z7⟩ := fill8_cells hz3v
                    have zf : ∀ k, V3.frozen? ⟨w.heap.size, k, none⟩ = false := fun k => frozen_of_row V3 _ k _ 27 hz3v
                    go_wp2
                    obtain ⟨Y, hY⟩ : ∃ Y, Y = fill8 w.heap.size (.int .i64 (c0 + 256 * c1)) (.bool rb) (.int .i64 c3) (.string (mk (dotJoin l))) (.int .i64 c4) (.slice sa0 ra0.length sc0) (.slice sa1 ra1.length sc1) (.slice sa2 ra2.length sc2) V3 := ⟨_, rfl⟩
                    have hYb : Y.heap[w.heap.size]? = some (.cells #[.int .i64 (c0 + 256 * c1), .bool rb, .int .i64 c3, .string (mk (dotJoin l)), .int .i64 c4, .slice sa0 ra0.length sc0, .slice sa1 ra1.length sc1, .slice sa2 ra2.length sc2] 27 (0, 0)) := by rw [hY]; exact fill8_heap hz3v
                    have hYB : Below w.heap.size w Y := by rw [hY]; exact below_fill hB3v (Nat.le_refl _)
                    have hYs : Y.heap.size = V3.heap.size := by rw [hY, fill8_size]
                    have KA : Lst w.heap.size V1.heap.size Y (.slice sa0 ra0.length sc0) ra0 := by rw [hY]; exact (K0_2.fill (by omega)).lower (by omega)
                    have KB : Lst V1.heap.size V2.heap.size Y (.slice sa1 ra1.length sc1) ra1 := by rw [hY]; exact K1_2.fill (by omega)
                    have KC : Lst V2.heap.size Y.heap.size Y (.slice sa2 ra2.length sc2) ra2 := by rw [hYs, hY]; exact K2_2.fill (by omega)
                    unfold fill8 at hY
                    rw [← hY]
                    clear hY y0 y1 y2 y3 y4 y5 y6 y7 yf z0 z1 z2 z3 z4 z5 z6 z7 zf x0 x1 x2 x3 x4 x5 x6 x7 xf
                    obtain ⟨x0, x1, x2, x3, x4, x5, x6, x7⟩ := fill8_cells hYb
                    refine bodyPost_ret (v := .tuple #[.agg #[.int .i64 (c0 + 256 * c1), .bool rb, .int .i64 c3, .string (mk (dotJoin l)), .int .i64 c4, .slice sa0 ra0.length sc0, .slice sa1 ra1.length sc1, .slice sa2 ra2.length sc2], .int .i64 0]) (by simp [results, Tryz.results126, go_sem, x0, x1, x2, x3, x4, x5, x6, x7]) rfl ?_
                    rw [HF.out]
                    exact ⟨hYB, _, _, _, V1.heap.size, V2.heap.size, rfl, KA, KB, KC, by omega, by omega, by omega⟩
                  · have HN : Hid (msgS (tl s) = none) := by
                      show _ = _
                      rw [HT.out, tail_end m1 m2 m3 HA.out HBb.out HC.out (by omega) (by omega) (by omega) HQ0.out HQ1.out HQ2.out, if_neg hend]
                    clear HQ0 HQ1 HQ2
                    have hendb : ((n3 : Int) == (s.size : Int)) = false := by simp; omega
                    have hendc : (n3 == s.size) = false := by simpa using hend
                    obtain ⟨y0, y1, y2, y3, y4, y5, y6, y7⟩ := fill8_cells hy3v
                    have yf : ∀ k, V3.frozen? ⟨w.heap.size + 1, k, none⟩ = false := fun k => frozen_of_row V3 _ k _ 27 hy3v
                    obtain ⟨z0, z1, z2, z3, z4, z5, z6, z7⟩ := fill8_cells hz3v
                    have zf : ∀ k, V3.frozen? ⟨w.heap.size, k, none⟩ = false := fun k => frozen_of_row V3 _ k _ 27 hz3v
                    go_wp2
                    obtain ⟨Y, hY⟩ : ∃ Y, Y = fill8 w.heap.size (.int .i64 0) (.bool false) (.int .i64 0) (.string ⟨#[]⟩) (.int .i64 0) (.slice none 0 0) (.slice none 0 0) (.slice none 0 0) V3 := ⟨_, rfl⟩
                    have hYb : Y.heap[w.heap.size]? = some (.cells #[.int .i64 0, .bool false, .int .i64 0, .string ⟨#[]⟩, .int .i64 0, .slice none 0 0, .slice none 0 0, .slice none 0 0] 27 (0, 0)) := by rw [hY]; exact fill8_heap hz3v
                    have hYB : Below w.heap.size w Y := by rw [hY]; exact below_fill hB3v (Nat.le_refl _)
                    unfold fill8 at hY
                    rw [← hY]
                    clear hY y0 y1 y2 y3 y4 y5 y6 y7 yf z0 z1 z2 z3 z4 z5 z6 z7 zf
                    obtain ⟨x0, x1, x2, x3, x4, x5, x6, x7⟩ := fill8_cells hYb
                    refine bodyPost_ret (v := .tuple #[zMsg, .int .i64 2]) (by simp [results, Tryz.results126, go_sem, zMsg, x0, x1, x2, x3, x4, x5, x6, x7]) rfl ?_
                    rw [HN.out]
                    exact ⟨hYB, rfl⟩
end Go.Proofs.YtefdokkadckbbaaGreatDoor
