/- Pg Ph -/
import Derived.Test.YtefdokkadckbbaaGreatDoorZ35
import Derived.Laws.IdiomRangeMap
section
namespace Go.Proofs.YtefdokkadckbbaaGreatDoor
open Go.RowKit Go.MapKept Go.Maps
set_option maxRecDepth 100000
theorem len64_zero (w : World) : Calls Tryz.prog 226 #[.int .u64 0] w fun e w' => e = .returned (.int .i64 0) ∧ w' = w := by
 go_enter Tryz.func226, Tryz.ntmps226
 go_wp2
 go_ret
 exact ⟨by kernel_rfl, rfl⟩
theorem len_zero (w : World) : Calls Tryz.prog 152 #[.int .u64 0] w fun e w' => e = .returned (.int .i64 0) ∧ w' = w := by
 go_enter Tryz.func152, Tryz.ntmps152
 go_wp2_with (go_at_call 226; refine (len64_zero _).mono ?_; rintro e w1 ⟨rfl, rfl⟩)
 go_ret
 exact ⟨rfl, rfl⟩
theorem insertion_zero (cmp : Value) (w : World) : Calls Tryz.prog 217 #[.slice none 0 0, .int .i64 0, .int .i64 0, cmp] w fun e w' => e = .returned (.tuple #[]) ∧ w' = w := by
 go_enter Tryz.func217, Tryz.ntmps217
 go_wp2
 go_loopw [8] (fun i wr => i = .int .i64 1 ∧ wr = w) (fun _ _ => 0)
 case atStart => exact ⟨rfl, rfl⟩
 case round =>
  obtain ⟨rfl, rfl⟩ := hrel
  go_wp2
  go_end0
  exact ⟨rfl, rfl⟩
theorem pdq_zero (n : Int) (cmp : Value) (w : World) : Calls Tryz.prog 151 #[.slice none 0 0, .int .i64 0, .int .i64 0, .int .i64 n, cmp] w fun e w' => e = .returned (.tuple #[]) ∧ w' = w := by
 go_enter Tryz.func151, Tryz.ntmps151
 go_wp2
 go_loopw [1, 2] (fun a b wr => a = .int .i64 0 ∧ b = .int .i64 0 ∧ wr = w) (fun _ _ _ => 0)
 case atStart => exact ⟨rfl, rfl, rfl⟩
 case round =>
  obtain ⟨rfl, rfl, rfl⟩ := hrel
  go_wp2_with (go_at_call 217; refine (insertion_zero _ _).mono ?_; rintro e w1 ⟨rfl, rfl⟩)
  refine bodyPost_ret (results_none rfl _ _ _) rfl ?_
  exact ⟨rfl, rfl⟩
theorem sort_zero (cmp : Value) (w : World) : Calls Tryz.prog 121 #[.slice none 0 0, cmp] w fun e w' => e = .returned (.tuple #[]) ∧ w' = w := by
 go_enter Tryz.func121, Tryz.ntmps121
 go_wp2_with (first
  | (go_at_call 152; refine (len_zero _).mono ?_; rintro e w1 ⟨rfl, rfl⟩)
  | (go_at_call 151; refine (pdq_zero _ _ _).mono ?_; rintro e w1 ⟨rfl, rfl⟩))
 go_end0
 exact ⟨rfl, rfl⟩
theorem memEntries_any (mp mm : Nat) (room uses : Int) (w : World) (hp : w.heap[mp]? = some (.cells #[.int .i64 room, .int .i64 uses, .map (some mm)] 194 (0, 0))) (hm : MapIs w Tryz.prog 208 mm (fun _ => none)) :
  Calls Tryz.prog 70 #[.pointer (some ⟨mp, 0, none⟩)] w fun e w' => e = .returned (.slice none 0 0) ∧ Below w.heap.size w w' := by
 obtain ⟨es, clock, hb, hs, _, hf⟩ := hm
 obtain rfl : es = #[] := by
  have : es.toList = [] := by
   cases h : es.toList with
   | nil => rfl
   | cons e l => have := (hf e.key e.val).2 ⟨e, by simp [h], rfl, rfl⟩; cases this
  simpa using this
 have c2 : w.cell? ⟨mp, 2, none⟩ = some (.map (some mm)) := by rw [cell_blk hp]; rfl
 have hrg := run_range_map (P := Tryz.prog) w 192 _ _ mm #[] clock Tryz.underlying192 hb
 have hnx : ∀ ty, (Instr.next (.pointer (some ⟨w.heap.size, 0, none⟩)) false ty).run Tryz.prog (w.alloc (.mapIter (some mm) clock #[] clock)) = .ok (.tuple #[.bool false]) (w.alloc (.mapIter (some mm) clock #[] clock)) := by
  intro ty
  rcases run_next_map (P := Tryz.prog) w ty mm clock clock #[] #[] clock hb (by simp) (Nat.le_refl _) with ⟨_, h⟩ | ⟨e, he, _⟩
  ·exact h
  ·simp [leftOf] at he
 clear hb hp hf hs
 go_enter Tryz.func70, Tryz.ntmps70
 go_wp2
 go_loopw [3] (fun s wr => s = .slice none 0 0 ∧ wr = w.alloc (.mapIter (some mm) clock #[] clock)) (fun _ _ => 0)
 case atStart => exact ⟨rfl, rfl⟩
 case round =>
  obtain ⟨rfl, rfl⟩ := hrel
  go_wp2_with (go_at_call 121; refine (sort_zero _ _).mono ?_; rintro e w1 ⟨rfl, rfl⟩)
  go_ret
  exact ⟨rfl, (Below.refl _ _).alloc (Nat.le_refl _) _⟩
set_option maxHeartbeats 2000000 in
theorem entries_any (x : Nat) (F : Nat → Prop) (s : Rs) (w : World) (hR : PRs w F x s) :
  Calls Tryz.prog 35 #[.pointer (some ⟨x, 0, none⟩)] w fun e w' => e = .returned (.slice none 0 0) ∧ Below w.heap.size w w' := by
 obtain ⟨C, G, vt, bs, hC, hT, hCG, hF⟩ := hR.ex
 obtain ⟨hb, hc, mp, mm, vs, vr, hX, _, ⟨_, _, ⟨room, uses, hp⟩, hm⟩, _, _⟩ := hC.ex
 have x5 : w.cell? ⟨x, 5, none⟩ = some (.pointer (some ⟨mp, 0, none⟩)) := by rw [cell_blk hX]; rfl
 have HT : Hid (Calls Tryz.prog 70 #[.pointer (some ⟨mp, 0, none⟩)] w fun e w' => e = .returned (.slice none 0 0) ∧ Below w.heap.size w w') := memEntries_any mp mm room uses w hp hm
 clear hX hp hm hC hT hR
 go_enter Tryz.func35, Tryz.ntmps35
 go_wp2_with (go_at_call 70; refine HT.out.mono ?_; rintro e w1 ⟨rfl, h2⟩)
 go_ret
 exact ⟨rfl, h2⟩
end Go.Proofs.YtefdokkadckbbaaGreatDoor
end
section
namespace Go.Proofs.YtefdokkadckbbaaGreatDoor
open Go.RowKit Go.MapKept Go.Maps
set_option maxRecDepth 100000
theorem hid {p : Prop} (h : p) : Hid p := h
set_option maxHeartbeats 2000000 in
theorem areHints_any (v : Value) (hs : List Int) (w : World) (hv : w.ownsRow 0 3 1 v hs.length (icells hs)) :
  Calls Tryz.prog 105 #[v] w fun e w' => e = .returned (.bool (hintsOk hs)) ∧ w' = w := by
 obtain ⟨a, c, rfl⟩ := own_val hv
 have hcell : Hid (∀ k, k < hs.length → ∃ g, a = some ⟨g, 0, none⟩ ∧ w.cell? ⟨g, k, none⟩ = (hs[k]?).map fun x => Value.int .i64 x) := by
  intro k hk
  rcases hv.2 with ⟨h1, h0⟩ | ⟨g, cap, cur, h1, _⟩
  ·omega
  ·simp only [Value.slice.injEq] at h1
   obtain ⟨rfl, _, rfl⟩ := h1
   refine ⟨g, rfl, ?_⟩
   rw [hv.cellAt k (by omega)]
   simp [icells]
 by_cases h13 : 1 ≤ hs.length ∧ hs.length ≤ 3
 ·have hb1 : (decide ((1 : Int) ≤ (hs.length : Int)) && decide ((hs.length : Int) ≤ 3)) = true := by simp; omega
  have hB : Calls Tryz.prog 106 #[.int .i64 1, .int .i64 hs.length, .int .i64 3] w fun e w' => e = .returned (.bool true) ∧ w' = w := by
   have := between_any 1 hs.length 3 w
   rwa [hb1] at this
  have HB := hid hB
  clear hB hv
  go_enter Tryz.func105, Tryz.ntmps105
  go_wp2_with (go_at_call 106; refine HB.out.mono ?_; rintro e w1 ⟨rfl, h⟩; have hh := h.symm; clear h; subst hh)
  go_loopw [11] (fun i wr => wr = w ∧ ∃ k : Nat, k ≤ hs.length ∧ i = .int .i64 k ∧ ∀ j x, j < k → hs[j]? = some x → 0 ≤ x ∧ x ≤ 255) (fun i _ => hs.length - (intOf i).toNat)
  case atStart => exact ⟨rfl, 0, Nat.zero_le _, rfl, fun j x hj => by omega⟩
  case round =>
   obtain ⟨rfl, k, hk, rfl, hall⟩ := hrel
   by_cases hlt : k < hs.length
   ·obtain ⟨g, rfl, hc⟩ := hcell.out k hlt
    rw [List.getElem?_eq_getElem hlt, Option.map_some] at hc
    have HA := hid hall
    by_cases hx : 0 ≤ hs[k] ∧ hs[k] ≤ 255
    ·have hA : Hid (Calls Tryz.prog 142 #[.int .i64 hs[k]] wr fun e w' => e = .returned (.bool true) ∧ w' = wr) := by
      have := isAddress_any hs[k] wr
      rwa [show (decide (0 ≤ hs[k]) && decide (hs[k] ≤ 255)) = true by simp; exact hx] at this
     clear hall
     go_wp2_with (go_at_call 142; refine hA.out.mono ?_; rintro e w1 ⟨rfl, h⟩; have hh := h.symm; clear h; subst hh)
     go_roundw
     case rel => exact ⟨trivial, k + 1, hlt, by go_num, fun j x hj hjx => by
      rcases Nat.lt_or_ge j k with h | h
      ·exact HA.out j x h hjx
      ·obtain rfl : j = k := by omega
       rw [List.getElem?_eq_getElem hlt] at hjx
       simp at hjx
       rw [← hjx]; exact hx⟩
     case measure => simp [intOf]; omega
    ·have hA : Hid (Calls Tryz.prog 142 #[.int .i64 hs[k]] wr fun e w' => e = .returned (.bool false) ∧ w' = wr) := by
      have := isAddress_any hs[k] wr
      rwa [show (decide (0 ≤ hs[k]) && decide (hs[k] ≤ 255)) = false by simp; omega] at this
     clear hall
     go_wp2_with (go_at_call 142; refine hA.out.mono ?_; rintro e w1 ⟨rfl, h⟩; have hh := h.symm; clear h; subst hh)
     go_ret
     refine ⟨?_, rfl⟩
     have : hintsOk hs = false := by
      unfold hintsOk
      rw [Bool.and_eq_false_iff]
      right
      rw [List.all_eq_false]
      exact ⟨hs[k], List.getElem_mem _, by simp; omega⟩
     rw [this]; rfl
   ·obtain rfl : k = hs.length := by omega
    have HA := hid hall
    clear hall hcell
    go_wp2
    go_ret
    refine ⟨?_, rfl⟩
    have : hintsOk hs = true := by
     unfold hintsOk
     simp only [Bool.and_eq_true, decide_eq_true_eq, List.all_eq_true]
     refine ⟨h13, fun x hx => ?_⟩
     obtain ⟨j, hj⟩ := List.getElem?_of_mem hx
     exact HA.out j x (List.getElem?_eq_some_iff.1 hj).1 hj
    rw [this]; rfl
 ·have hb1 : (decide ((1 : Int) ≤ (hs.length : Int)) && decide ((hs.length : Int) ≤ 3)) = false := by simp; omega
  have hB : Calls Tryz.prog 106 #[.int .i64 1, .int .i64 hs.length, .int .i64 3] w fun e w' => e = .returned (.bool false) ∧ w' = w := by
   have := between_any 1 hs.length 3 w
   rwa [hb1] at this
  have HB := hid hB
  clear hB hv
  go_enter Tryz.func105, Tryz.ntmps105
  go_wp2_with (go_at_call 106; refine HB.out.mono ?_; rintro e w1 ⟨rfl, h⟩; have hh := h.symm; clear h; subst hh)
  go_ret
  refine ⟨?_, rfl⟩
  have : hintsOk hs = false := by
   unfold hintsOk
   rw [Bool.and_eq_false_iff]
   left
   simp; omega
  rw [this]; rfl
theorem memNew_any (room : Int) (w : World) : Calls Tryz.prog 62 #[.int .i64 room] w fun e w' => e = .returned (.pointer (some ⟨w.heap.size + 1, 0, none⟩)) ∧ w' = (w.alloc (.map #[] 0)).alloc (.cells #[.int .i64 room, .int .i64 0, .map (some w.heap.size)] 194) := by
 have hmk : (Instr.makeMap 192 none).run Tryz.prog w = .ok (.map (some w.heap.size)) (w.alloc (.map #[] 0)) := rfl
 go_enter Tryz.func62, Tryz.ntmps62
 go_wp2
 go_ret
 exact ⟨by simp, rfl⟩
set_option maxHeartbeats 4000000 in
theorem mayBe_any (v : Value) (hs : List Int) (en tr pa mx : Int) (w : World) (hv : w.ownsRow 0 3 1 v hs.length (icells hs)) :
  Calls Tryz.prog 60 #[.agg #[v, .int .i64 en, .int .i64 tr, .int .i64 pa, .int .i64 mx]] w fun e w' => e = .returned (.bool (cfgOk hs en tr pa mx)) ∧ Below w.heap.size w w' := by
 obtain ⟨a, c, rfl⟩ := own_val hv
 have HA : Hid (∀ o, Calls Tryz.prog 105 #[.slice a hs.length c] (w.alloc o) fun e w' => e = .returned (.bool (hintsOk hs)) ∧ w' = w.alloc o) := fun o => areHints_any _ hs _ (hv.alloc o)
 clear hv
 go_enter Tryz.func60, Tryz.ntmps60
 go_wp2_with (first
  | (go_at_call 105; refine (HA.out _).mono ?_; rintro e w1 ⟨rfl, h⟩; have hh := h.symm; clear h; subst hh)
  | (go_at_call 106; refine (between_any _ _ _ _).mono ?_; rintro e w1 ⟨rfl, h⟩; have hh := h.symm; clear h; subst hh))
 all_goals go_ret
 all_goals refine ⟨?_, (Below.refl _ _).alloc (Nat.le_refl _) _⟩
 all_goals (unfold cfgOk; simp_all)
 all_goals (intros; omega)
set_option maxHeartbeats 4000000 in
theorem new_any (v : Value) (hs : List Int) (en tr pa mx : Int) (w : World) (hv : w.ownsRow 0 3 1 v hs.length (icells hs)) (hG : Good w) (hl : hs.length ≤ 33554432) :
  Calls Tryz.prog 32 #[.agg #[v, .int .i64 en, .int .i64 tr, .int .i64 pa, .int .i64 mx]] w fun e w' => Below w.heap.size w w' ∧ (cfgOk hs en tr pa mx = false → e = .returned (.tuple #[.pointer none, .int .i64 1])) ∧
   (cfgOk hs en tr pa mx = true → ∃ x F, e = .returned (.tuple #[.pointer (some ⟨x, 0, none⟩), .int .i64 0]) ∧ PRs w' F x (newRs hs en tr pa mx) ∧ ∀ j, F j → w.heap.size ≤ j) := by
 obtain ⟨a, c, rfl⟩ := own_val hv
 have HA : Hid (∀ o, Calls Tryz.prog 60 #[.agg #[.slice a hs.length c, .int .i64 en, .int .i64 tr, .int .i64 pa, .int .i64 mx]] (w.alloc o) fun e w' => e = .returned (.bool (cfgOk hs en tr pa mx)) ∧ Below (w.alloc o).heap.size (w.alloc o) w') := fun o => mayBe_any _ hs en tr pa mx _ (hv.alloc o)
 cases hok : cfgOk hs en tr pa mx with
 | false =>
  rw [hok] at HA
  clear hv
  go_enter Tryz.func32, Tryz.ntmps32
  go_wp2_with (go_at_call 60; refine (HA.out _).mono ?_; rintro e w1 ⟨rfl, hb1⟩)
  go_ret2
  exact ⟨((Below.refl _ _).alloc (Nat.le_refl _) _).trans (hb1.mono (by simp)), fun _ => rfl, fun h => by cases h⟩
 | true =>
  rw [hok] at HA
  have HT : Hid (∀ w1, Below w.heap.size w w1 → Calls Tryz.prog 61 #[.slice a hs.length c, .int .i64 0] w1 fun e w' => ∃ a2 cc, e = .returned (.slice a2 hs.length cc) ∧ w'.ownsRow w1.heap.size 3 1 (.slice a2 hs.length cc) hs.length (icells hs) ∧ Below w1.heap.size w1 w') := by
   intro w1 hb1
   refine (tailI_any _ hs 0 w1 (own_same hv fun k e => hb1.block k (hv.lt k e).2) hl).mono ?_
   rintro e w' ⟨v', rfl, h1, h2⟩
   have h0 : cutN 0 hs.length = 0 := by unfold cutN; split; omega; split; omega; rfl
   rw [h0, List.drop_zero] at h1
   obtain ⟨a2, cc, rfl⟩ := own_val (own_low h1 (Nat.zero_le _))
   exact ⟨a2, cc, rfl, h1, h2⟩
  clear hv
  go_enter Tryz.func32, Tryz.ntmps32
  go_upto_region 4 with (first
   | (go_at_call 60; refine (HA.out _).mono ?_; rintro e w1 ⟨rfl, hb1⟩; have hB1 : Hid (Below w.heap.size w w1) := (((Below.refl _ _).alloc (Nat.le_refl _) _).trans (hb1.mono (by simp)) : Below w.heap.size w w1); have c0 : w1.heap[w.heap.size]? = some (.cells #[.slice a hs.length c, .int .i64 en, .int .i64 tr, .int .i64 pa, .int .i64 mx] 30 (0, 0)) := (hb1.block _ (by simp)).trans (World.alloc_heap_new _ _); obtain ⟨g0, g1, g2, g3, g4⟩ := cells5 c0)
   | (go_at_call 61; refine (HT.out _ hB1.out).mono ?_; rintro e w2 ⟨a2, cc, rfl, hv2, hb2⟩; have c2 := (hb2.block _ (Array.getElem?_eq_some_iff.1 c0).1).trans c0; clear g0 g1 g2 g3 g4 c0; obtain ⟨g0, g1, g2, g3, g4⟩ := cells5 c2; have gf : ∀ k, w2.frozen? ⟨w.heap.size, k, none⟩ = false := (fun k => frozen_of_row w2 _ k _ 30 c2)))
  have hB2 : Below w.heap.size w w2 := hB1.out.trans (hb2.mono (by have := hB1.out.size; omega))
  have hl2 : w.heap.size < w2.heap.size := (Array.getElem?_eq_some_iff.1 c2).1
  have hlw1 : w.heap.size < w1.heap.size := by have := hb1.size; simp at this; omega
  obtain ⟨W2, hW2⟩ : ∃ W2, W2 = w2.setCell ⟨w.heap.size, 0, none⟩ (.slice a2 hs.length cc) := ⟨_, rfl⟩
  have e0 : W2.heap[w.heap.size]? = some (.cells #[.slice a2 hs.length cc, .int .i64 en, .int .i64 tr, .int .i64 pa, .int .i64 mx] 30 (0, 0)) := by rw [hW2]; have := heap_setCell_same w2 w.heap.size 0 _ 30 (.slice a2 hs.length cc) c2; simpa using this
  have hz : W2.heap.size = w2.heap.size := by rw [hW2]; simp
  have hBW : Below w.heap.size w W2 := by rw [hW2]; exact hB2.set (Nat.le_refl _) 0 _
  have hvW : W2.ownsRow w1.heap.size 3 1 (.slice a2 hs.length cc) hs.length (icells hs) := own_same hv2 fun k e => by rw [hW2]; exact Below.heap_setCell _ _ _ _ (by have := (hv2.lt k e).1; simp; omega)
  rw [← hW2]
  clear hW2 g0 g1 g2 g3 g4 gf c2 hb1 HA HT hv2
  have HF : ∀ w', Below W2.heap.size W2 w' → w'.cell? ⟨w.heap.size, 0, none⟩ = some (.slice a2 hs.length cc) ∧ w'.cell? ⟨w.heap.size, 1, none⟩ = some (.int .i64 en) ∧ w'.cell? ⟨w.heap.size, 2, none⟩ = some (.int .i64 tr) ∧ w'.cell? ⟨w.heap.size, 3, none⟩ = some (.int .i64 pa) ∧ w'.cell? ⟨w.heap.size, 4, none⟩ = some (.int .i64 mx) := fun w' hw => cells5 ((hw.block _ (by omega)).trans e0)
  have hS0 : Below W2.heap.size W2 W2.drew := (Below.refl _ _).drew
  obtain ⟨M1, hM1⟩ : ∃ M1, M1 = (W2.drew.alloc (.map #[] 0)).alloc (.cells #[.int .i64 en, .int .i64 0, .map (some W2.heap.size)] 194) := ⟨_, rfl⟩
  have m1 : Below W2.heap.size W2 M1 := by rw [hM1]; exact ((Below.refl _ _).drew.alloc (Nat.le_refl _) _).alloc (by simp) _
  have z1 : M1.heap.size = W2.heap.size + 2 := by rw [hM1]; show ((W2.alloc _).alloc _).heap.size = _; simp
  have mm : M1.heap[W2.heap.size]? = some (.map #[] 0) := by rw [hM1]; exact (Below.heap_alloc _ _ _ (by simp)).trans (World.alloc_heap_new W2.drew _)
  have mc : M1.heap[W2.heap.size + 1]? = some (.cells #[.int .i64 en, .int .i64 0, .map (some W2.heap.size)] 194 (0, 0)) := by
   rw [hM1]
   have := World.alloc_heap_new (W2.drew.alloc (.map #[] 0)) (.cells #[.int .i64 en, .int .i64 0, .map (some W2.heap.size)] 194)
   rw [World.size_alloc] at this
   exact this
  obtain ⟨M2, hM2⟩ : ∃ M2, M2 = M1.alloc (.cells #[.slice a2 hs.length cc, .int .i64 en, .int .i64 tr, .int .i64 pa, .int .i64 mx, .pointer (some ⟨W2.heap.size + 1, 0, none⟩), .int .i64 0, .int .i64 1, .slice none 0 0, .int .i64 0, .slice none 0 0, .slice none 0 0] 125) := ⟨_, rfl⟩
  have m2 : Below W2.heap.size W2 M2 := by rw [hM2]; exact m1.alloc m1.size _
  have z2 : M2.heap.size = W2.heap.size + 3 := by rw [hM2]; simp [z1]
  have hx : M2.heap[M1.heap.size]? = some (.cells #[.slice a2 hs.length cc, .int .i64 en, .int .i64 tr, .int .i64 pa, .int .i64 mx, .pointer (some ⟨W2.heap.size + 1, 0, none⟩), .int .i64 0, .int .i64 1, .slice none 0 0, .int .i64 0, .slice none 0 0, .slice none 0 0] 125 (0, 0)) := by rw [hM2]; exact World.alloc_heap_new M1 _
  have m12 : ∀ k, k < M1.heap.size → M2.heap[k]? = M1.heap[k]? := fun k hk => by rw [hM2]; exact Below.heap_alloc _ _ _ hk
  have hlen : hs.length ≠ 0 := by intro h; rw [List.length_eq_zero_iff] at h; subst h; simp [cfgOk, hintsOk] at hok
  have HEND : Hid (Below w.heap.size w M2 ∧ ∃ x F, (Ending.returned (.tuple #[.pointer (some ⟨M1.heap.size, 0, none⟩), .int .i64 0])) = .returned (.tuple #[.pointer (some ⟨x, 0, none⟩), .int .i64 0]) ∧ PRs M2 F x (newRs hs en tr pa mx) ∧ ∀ j, F j → w.heap.size ≤ j) := by
   refine ⟨hBW.trans (m2.mono (by omega)), M1.heap.size, fun j => w.heap.size ≤ j ∧ j < M2.heap.size, rfl, ⟨fun j => w.heap.size ≤ j ∧ j < M2.heap.size, fun _ => False, .slice none 0 0, [], ?_, ?_, fun _ _ h => h, fun j => by simp⟩, fun j h => h.1⟩
   ·obtain ⟨_, ⟨h1, h0⟩ | ⟨g, cap, cur, h1, hbg, hg, hnc, hcm, hcs, htake⟩⟩ := hvW
    ·exact absurd h0 hlen
    simp only [Value.slice.injEq] at h1
    obtain ⟨rfl, _, rfl⟩ := h1
    have lg : g < W2.heap.size := (Array.getElem?_eq_some_iff.1 hg).1
    refine ⟨⟨g, cc, W2.heap.size + 1, W2.heap.size, .slice none 0 0, .slice none 0 0, hx, ⟨⟨by omega, by omega⟩, hnc, cur, (m2.block g lg).trans hg, fun j a ha => ?_⟩, ⟨⟨by omega, by omega⟩, ⟨by omega, by omega⟩, ⟨en, 0, (m12 _ (by omega)).trans mc⟩, MapIs.made ((m12 _ (by omega)).trans mm)⟩, ⟨World.ownsRow_nil _ _ _ _, fun k e => by simp [Value.ownBlock] at e⟩, ⟨World.ownsRow_nil _ _ _ _, fun k e => by simp [Value.ownBlock] at e⟩⟩, ⟨by omega, by omega⟩, fun j h => h.2, fun h => ?_⟩
    ·have ha' : hs[j]? = some a := ha
     have hj : j < hs.length := (List.getElem?_eq_some_iff.1 ha').1
     have := congrArg (fun l : List Value => l[j]?) htake
     simp only [List.getElem?_take, Nat.mul_one, if_pos hj, icells, List.getElem?_map, ha', Option.map_some] at this
     simpa using this
    ·have := hG.1; omega
   ·exact ⟨World.ownsRow_nil _ _ _ _, fun k e => by simp [Value.ownBlock] at e, rfl, fun i b t h => by simp at h, fun b h => by simp at h, ⟨by simp, by simp⟩, fun k h => h.elim, fun h => h⟩
  have HM : Hid (Below W2.heap.size W2 M1) := m1
  have HM2 : Hid (Below W2.heap.size W2 M2) := m2
  have HW1 : Hid (M1 = (W2.drew.alloc (.map #[] 0)).alloc (.cells #[.int .i64 en, .int .i64 0, .map (some W2.heap.size)] 194)) := hM1
  have HW2 : Hid (M2 = M1.alloc (.cells #[.slice a2 hs.length cc, .int .i64 en, .int .i64 tr, .int .i64 pa, .int .i64 mx, .pointer (some ⟨W2.heap.size + 1, 0, none⟩), .int .i64 0, .int .i64 1, .slice none 0 0, .int .i64 0, .slice none 0 0, .slice none 0 0] 125)) := hM2
  clear hM1 m1 mm mc hM2 m2 hx m12 hvW hBW hz z1 z2 hlen hl2 hlw1
  refine wp_region_held_drew (S := fun w' => Below W2.heap.size W2 w') (by kernel_rfl) hS0 (fun hS => ?_)
  refine tkY (i := 0) (v := .agg #[.slice a2 hs.length cc, .int .i64 en, .int .i64 tr, .int .i64 pa, .int .i64 mx]) rfl (Or.inl ⟨by rfl, fun w' hw => by obtain ⟨g0, g1, g2, g3, g4⟩ := HF w' hw; go_simp⟩) hS ?_
  refine tkS (i := 1) (v := .pointer (some ⟨w.heap.size, 1, none⟩)) rfl hS ?_
  refine tkY (i := 2) (v := .int .i64 en) rfl (Or.inl ⟨by rfl, fun w' hw => by obtain ⟨g0, g1, g2, g3, g4⟩ := HF w' hw; go_simp⟩) hS ?_
  refine wpAnyH_ready (rs := [3]) (by kernel_rfl) (by simp) ?_
  refine AllReadyH.cons rfl (fun K hK => ?_) AllReadyH.nil
  go_simp
  refine (memNew_any en _).mono ?_
  rintro e w5 ⟨rfl, hw5⟩
  have hh5 : w5 = M1 := hw5.trans HW1.out.symm
  clear hw5 HW1
  subst hh5
  refine hK.out _ _ (HM.out) fun hS => ?_
  refine tkS (i := 4) (v := .agg #[.slice a2 hs.length cc, .int .i64 en, .int .i64 tr, .int .i64 pa, .int .i64 mx, .pointer (some ⟨W2.heap.size + 1, 0, none⟩), .int .i64 0, .int .i64 1]) rfl hS ?_
  refine tkS (i := 5) (v := .agg #[.slice a2 hs.length cc, .int .i64 en, .int .i64 tr, .int .i64 pa, .int .i64 mx, .pointer (some ⟨W2.heap.size + 1, 0, none⟩), .int .i64 0, .int .i64 1, .slice none 0 0, .int .i64 0, .slice none 0 0, .slice none 0 0]) rfl hS ?_
  refine wpAnyH_ready (rs := [6]) (by kernel_rfl) (by simp) ?_
  refine AllReadyH.cons rfl (fun K hK => ?_) AllReadyH.nil
  go_simp
  rw [← HW2.out]
  refine hK.out _ _ HM2.out fun hS => ?_
  refine wpAnyH_ready (rs := [7]) (by kernel_rfl) (by simp) ?_
  refine AllReadyH.cons rfl (fun K hK => ?_) AllReadyH.nil
  go_simp
  refine hK.out _ _ HM2.out fun hS => ?_
  refine wpAnyH_ready (rs := [8]) (by kernel_rfl) (by simp) ?_
  refine AllReadyH.cons rfl (fun K hK => ?_) AllReadyH.nil
  go_simp
  refine hK.out _ _ HM2.out fun hS => ?_
  refine wpAnyH_done (by kernel_rfl) ?_ _
  go_wp2
  go_ret2
  exact ⟨HEND.out.1, (fun h => by cases h), fun _ => HEND.out.2⟩
end Go.Proofs.YtefdokkadckbbaaGreatDoor
end
