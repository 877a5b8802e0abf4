/- lying. -/
import Derived.Test.YtefdokkadckbbaaDoorV2
import Derived.Deep.DeepCutAuto
import Derived.Deep.CutBlock
import Derived.Deep.RegionHeld3
namespace Go.Proofs.YtefdokkadckbbaaDoor
open Go.RowKit
set_option maxRecDepth 100000

theorem pick_is (c n : Int) (p : Nat) (w : World) (hc : I64 c) (hn : 0 < n) (hp : pickZ c n = p) : Calls Tryd.prog 5 #[.int .i64 c, .int .i64 n] w fun e w' => e = .returned (.int .i64 (p : Int)) ∧ w' = w := by
  rw [← hp]; exact pick_any c n w hc hn
theorem pick_to (c n : Int) (p : Nat) (w : World) (hc : I64 c) (hn : 0 < n) (hp : pickZ c n = p) : Calls Tryd.prog 5 #[.int .i64 c, .int .i64 n] w fun e w' => e = .returned (.int .i64 (p : Int)) ∧ w = w' := (pick_is c n p w hc hn hp).mono fun _ _ h => ⟨h.1, h.2.symm⟩
theorem pick_nat (c n : Int) (hn : 0 < n) : ∃ p : Nat, pickZ c n = p ∧ (p : Int) < n := by
  obtain ⟨h1, h2⟩ := pickZ_in c n hn
  exact ⟨(pickZ c n).toNat, by omega, by omega⟩

theorem rec3 {ar : Option Addr} {nr : Nat} {w : World} (h : ∀ j, j < nr → ∃ g o z, ar = some ⟨g, o, none⟩ ∧ g < w.heap.size ∧ w.cell? ⟨g, o + j, none⟩ = some (.int .i64 z) ∧ I64 z) {j : Nat} (hj : j + 2 < nr) :
    ∃ g o z0 z1 z2, ar = some ⟨g, o, none⟩ ∧ g < w.heap.size ∧ w.cell? ⟨g, o + j, none⟩ = some (.int .i64 z0) ∧ w.cell? ⟨g, o + (j + 1), none⟩ = some (.int .i64 z1) ∧ w.cell? ⟨g, o + (j + 2), none⟩ = some (.int .i64 z2) ∧ I64 z0 ∧ I64 z1 ∧ I64 z2 := by
  obtain ⟨g, o, z0, rfl, hg, e0, i0⟩ := h j (by omega)
  obtain ⟨g1, o1, z1, h1, _, e1, i1⟩ := h (j + 1) (by omega)
  obtain ⟨g2, o2, z2, h2, _, e2, i2⟩ := h (j + 2) (by omega)
  simp only [Option.some.injEq, Addr.mk.injEq, and_true] at h1 h2
  obtain ⟨rfl, rfl⟩ := h1
  obtain ⟨rfl, rfl⟩ := h2
  exact ⟨g, o, z0, z1, z2, rfl, hg, e0, e1, e2, i0, i1, i2⟩
theorem nms_at {w : World} {b p : Nat} (h : w.heap[b]? = some nmsO) (hp : (p : Int) < 18) : ∃ x, w.cell? ⟨b, p, none⟩ = some (.string x) ∧ nameOk (tl x) = true := by
  have hl : p < nms.length := by show p < 18; omega
  refine ⟨nms[p], ?_, nms_ok _ (List.getElem_mem hl)⟩
  rw [show w.cell? ⟨b, p, none⟩ = ((nms.map Value.string).toArray)[p]? from cellB h]
  simp [hl]
def boxS (b : Nat) (w : World) (x0 : ByteArray) (a1 a2 a3 : Int) (x4 : ByteArray) : Prop := w.heap[b]? = some (.cells #[.string x0, .int .i64 a1, .int .i64 a2, .int .i64 a3, .string x4] 40 (0, 0))

theorem boxS_cells {b : Nat} {w : World} {x0 : ByteArray} {a1 a2 a3 : Int} {x4 : ByteArray} (h : boxS b w x0 a1 a2 a3 x4) : w.cell? ⟨b, 0, none⟩ = some (.string x0) ∧ w.cell? ⟨b, 1, none⟩ = some (.int .i64 a1) ∧ w.cell? ⟨b, 2, none⟩ = some (.int .i64 a2) ∧ w.cell? ⟨b, 3, none⟩ = some (.int .i64 a3) ∧ w.cell? ⟨b, 4, none⟩ = some (.string x4) := by
  refine ⟨?_, ?_, ?_, ?_, ?_⟩ <;> (rw [cellB h]; rfl)
theorem boxS_0 {b : Nat} {w : World} {x0 : ByteArray} {a1 a2 a3 : Int} {x4 : ByteArray} (h : boxS b w x0 a1 a2 a3 x4) (y : ByteArray) : boxS b (w.setCell ⟨b, 0, none⟩ (.string y)) y a1 a2 a3 x4 := by
  unfold boxS; rw [heap_setCell_same w b 0 _ 40 _ h]; rfl
theorem boxS_3 {b : Nat} {w : World} {x0 : ByteArray} {a1 a2 a3 : Int} {x4 : ByteArray} (h : boxS b w x0 a1 a2 a3 x4) (y : Int) : boxS b (w.setCell ⟨b, 3, none⟩ (.int .i64 y)) x0 a1 a2 y x4 := by
  unfold boxS; rw [heap_setCell_same w b 3 _ 40 _ h]; rfl
theorem boxS_4 {b : Nat} {w : World} {x0 : ByteArray} {a1 a2 a3 : Int} {x4 : ByteArray} (h : boxS b w x0 a1 a2 a3 x4) (y : ByteArray) : boxS b (w.setCell ⟨b, 4, none⟩ (.string y)) x0 a1 a2 a3 y := by
  unfold boxS; rw [heap_setCell_same w b 4 _ 40 _ h]; rfl

theorem rec_1 {x : ByteArray} {t u : Int} (hx : nameOk (tl x) = true) (ht : 1 ≤ t ∧ t ≤ 1000) (hu : 0 ≤ u ∧ u ≤ 255) : recOk ⟨x, 1, t, u, ⟨#[]⟩⟩ = true := by
  unfold recOk saysOk
  simp only [hx, decide_eq_true ht, if_pos, decide_eq_true hu]
  rfl
theorem rec_23 {x y : ByteArray} {t s : Int} (hx : nameOk (tl x) = true) (ht : 1 ≤ t ∧ t ≤ 1000) (hs : s = 2 ∨ s = 3) (hy : nameOk (tl y) = true) : recOk ⟨x, s, t, 0, y⟩ = true := by
  unfold recOk saysOk
  simp only [hx, decide_eq_true ht]
  rw [if_neg (by omega), if_pos hs, hy]
  rfl
theorem rec_4 {x : ByteArray} {t : Int} (hx : nameOk (tl x) = true) (ht : 1 ≤ t ∧ t ≤ 1000) : recOk ⟨x, 4, t, 0, ⟨#[]⟩⟩ = true := by
  unfold recOk saysOk
  simp only [hx, decide_eq_true ht]
  rfl

theorem wrap_I64 (n : Int) : I64 (wrap64 n) := by unfold I64 wrap64; omega
theorem room40 {n : Nat} (h : n ≤ 6) : n + 1 ≤ maxLen ∧ (n + 1) * 56 ≤ 140737488355328 := ⟨by unfold maxLen; omega, by omega⟩

def boxS8 (b : Nat) (w : World) : Prop := w.heap[b]? = some (.cells #[.int .i64 0, .bool false, .int .i64 0, .string ⟨#[]⟩, .int .i64 0, .slice none 0 0, .slice none 0 0, .slice none 0 0] 27 (0, 0))
theorem row_recs {W : World} {b : Nat} {v : Value} {rs : List Rec} (h : W.ownsRow b 40 5 v rs.length (rcells rs)) : RecSl W v rs := by
  rcases h.2 with ⟨h1, h2⟩ | ⟨g, cap, cur, hv, _, hg, hnc, _, _, ht⟩
  · exact ⟨none, 0, by rw [h1, h2], .inl (List.length_eq_zero_iff.1 h2)⟩
  · refine ⟨_, cap, hv, .inr ⟨g, 0, rfl, (Array.getElem?_eq_some_iff.1 hg).1, hnc, recs_of_cells rs 0 fun i u hi => ?_⟩⟩
    have := h.cells (g := g) (by rw [hv]; rfl) i u hi
    rw [add_plain] at this
    exact this
theorem own_lower {W : World} {b b' e sz n : Nat} {v : Value} {xs : List Value} (h : W.ownsRow b e sz v n xs) (hb : b' ≤ b) : W.ownsRow b' e sz v n xs := by
  obtain ⟨h1, h2 | ⟨g, cap, cur, hv, hg, r⟩⟩ := h
  · exact ⟨h1, .inl h2⟩
  · exact ⟨h1, .inr ⟨g, cap, cur, hv, Nat.le_trans hb hg, r⟩⟩
theorem fill_row {W : World} {b R n : Nat} {v : Value} {xs : List Value} {v0 v1 v2 v3 v4 v5 v6 v7 : Value} (h : W.ownsRow (R + 1) 40 5 v n xs) (hb : b ≤ R) : (fill8 b v0 v1 v2 v3 v4 v5 v6 v7 W).ownsRow (R + 1) 40 5 v n xs :=
  own_set (own_set (own_set (own_set (own_set (own_set (own_set (own_set h hb) hb) hb) hb) hb) hb) hb) hb
theorem ly_end {w wr : World} {R : Nat} {A0 A1 A2 : Array Value} {id code : Int} {nm : ByteArray} {ty : Int} {va vs vm : Value} {la ls lm : List Rec} {k : Nat} {v0 v1 v2 v3 v4 v5 v6 v7 : Value} (h : Ly w wr R A0 A1 A2 id code nm ty va vs vm la ls lm k) :
    Below w.heap.size w (fill8 (w.heap.size + 1 + 1) v0 v1 v2 v3 v4 v5 v6 v7 wr) ∧ (fill8 (w.heap.size + 1 + 1) v0 v1 v2 v3 v4 v5 v6 v7 wr).ownsRow w.heap.size 40 5 va la.length (rcells la) ∧ (fill8 (w.heap.size + 1 + 1) v0 v1 v2 v3 v4 v5 v6 v7 wr).ownsRow w.heap.size 40 5 vs ls.length (rcells ls) ∧ (fill8 (w.heap.size + 1 + 1) v0 v1 v2 v3 v4 v5 v6 v7 wr).ownsRow w.heap.size 40 5 vm lm.length (rcells lm) := by
  have hR := h.hR
  exact ⟨below_fill h.bel (by omega), own_lower (fill_row h.a (by omega)) (by omega), own_lower (fill_row h.s (by omega)) (by omega), own_lower (fill_row h.m (by omega)) (by omega)⟩

/-- What lying makes. -/
def LPost (w : World) (id cd : Int) (nm : ByteArray) (ty : Int) (e : Ending) (w' : World) : Prop :=
  ∃ va vs vm la ls lm, e = .returned (.agg #[.int .i64 id, .bool true, .int .i64 cd, .string nm, .int .i64 ty, va, vs, vm]) ∧ w'.ownsRow w.heap.size 40 5 va la.length (rcells la) ∧ w'.ownsRow w.heap.size 40 5 vs ls.length (rcells ls) ∧ w'.ownsRow w.heap.size 40 5 vm lm.length (rcells lm) ∧
    la.all recOk = true ∧ ls.all recOk = true ∧ lm.all recOk = true ∧ la.length + ls.length + lm.length ≤ 6 ∧ Below w.heap.size w w'

set_option maxHeartbeats 4000000 in
theorem lying_any (code which many : Int) (ar : Option Addr) (nr cr : Nat) (id : Int) (nm : ByteArray) (ty : Int) (w : World) (hc : I64 code)
    (hrec : ∀ j, j < nr → ∃ g o z, ar = some ⟨g, o, none⟩ ∧ g < w.heap.size ∧ w.cell? ⟨g, o + j, none⟩ = some (.int .i64 z) ∧ I64 z) (hn : nameOk (tl nm) = true) :
    Calls Tryd.prog 4 #[.agg #[.int .i64 code, .int .i64 which, .int .i64 many, .slice ar nr cr], .agg #[.int .i64 id, .bool false, .int .i64 0, .string nm, .int .i64 ty, .slice none 0 0, .slice none 0 0, .slice none 0 0]] w (LPost w id (pickZ code 4) nm ty) := by
  have HR : Hid (∀ j, j < nr → ∃ g o z, ar = some ⟨g, o, none⟩ ∧ g < w.heap.size ∧ w.cell? ⟨g, o + j, none⟩ = some (.int .i64 z) ∧ I64 z) := hrec
  clear hrec
  obtain ⟨cd, hcd⟩ : ∃ cd : Int, pickZ code 4 = cd := ⟨_, rfl⟩
  have HC : ∀ w, Calls Tryd.prog 5 #[.int .i64 code, .int .i64 4] w fun e w' => e = .returned (.int .i64 cd) ∧ w' = w := fun w => by rw [← hcd]; exact pick_any code 4 w hc (by decide)
  rw [hcd]
  clear hcd
  obtain ⟨W2, hW2⟩ : ∃ W2, W2 = (((w.alloc (.cells #[.int .i64 code, .int .i64 which, .int .i64 many, .slice ar nr cr] 24)).alloc (.cells #[.int .i64 id, .bool false, .int .i64 0, .string nm, .int .i64 ty, .slice none 0 0, .slice none 0 0, .slice none 0 0] 27)).alloc (.cells #[.int .i64 0, .bool false, .int .i64 0, .string ⟨#[]⟩, .int .i64 0, .slice none 0 0, .slice none 0 0, .slice none 0 0] 27)).alloc nmsO := ⟨_, rfl⟩
  have HC' : Hid (∀ w, Calls Tryd.prog 5 #[.int .i64 code, .int .i64 4] w fun e w' => e = .returned (.int .i64 cd) ∧ w' = w) := HC
  clear HC
  obtain ⟨i40, hi40, hz0, hz1, hz2⟩ := info_parts info91
  have hu25 := u39
  go_enter Tryd.func4, Tryd.ntmps4
  go_wp2_with (go_at_call 9; refine (names_any _).mono ?_; rintro e w1 ⟨rfl, rfl⟩)
  rw [← hW2]
  have hsz : W2.heap.size = w.heap.size + 4 := by rw [hW2]; simp
  have k0 : W2.heap[w.heap.size]? = some (.cells #[.int .i64 code, .int .i64 which, .int .i64 many, .slice ar nr cr] 24 (0, 0)) := by
    rw [hW2]; exact blk_old (blk_old (blk_old (Go.heap_alloc_new _ _) _) _) _
  have k1 : W2.heap[w.heap.size + 1]? = some (.cells #[.int .i64 id, .bool false, .int .i64 0, .string nm, .int .i64 ty, .slice none 0 0, .slice none 0 0, .slice none 0 0] 27 (0, 0)) := by
    rw [hW2]; exact blk_old (blk_old (by have := Go.heap_alloc_new (w.alloc (.cells #[.int .i64 code, .int .i64 which, .int .i64 many, .slice ar nr cr] 24)) (.cells #[.int .i64 id, .bool false, .int .i64 0, .string nm, .int .i64 ty, .slice none 0 0, .slice none 0 0, .slice none 0 0] 27); rw [World.size_alloc] at this; exact this) _) _
  have k2 : W2.heap[w.heap.size + 1 + 1]? = some (.cells #[.int .i64 0, .bool false, .int .i64 0, .string ⟨#[]⟩, .int .i64 0, .slice none 0 0, .slice none 0 0, .slice none 0 0] 27 (0, 0)) := by
    rw [hW2]; exact blk_old (by have := Go.heap_alloc_new ((w.alloc (.cells #[.int .i64 code, .int .i64 which, .int .i64 many, .slice ar nr cr] 24)).alloc (.cells #[.int .i64 id, .bool false, .int .i64 0, .string nm, .int .i64 ty, .slice none 0 0, .slice none 0 0, .slice none 0 0] 27)) (.cells #[.int .i64 0, .bool false, .int .i64 0, .string ⟨#[]⟩, .int .i64 0, .slice none 0 0, .slice none 0 0, .slice none 0 0] 27); rw [World.size_alloc, World.size_alloc] at this; exact this) _
  have k3 : W2.heap[w.heap.size + 1 + 1 + 1]? = some nmsO := by
    have := Go.heap_alloc_new (((w.alloc (.cells #[.int .i64 code, .int .i64 which, .int .i64 many, .slice ar nr cr] 24)).alloc (.cells #[.int .i64 id, .bool false, .int .i64 0, .string nm, .int .i64 ty, .slice none 0 0, .slice none 0 0, .slice none 0 0] 27)).alloc (.cells #[.int .i64 0, .bool false, .int .i64 0, .string ⟨#[]⟩, .int .i64 0, .slice none 0 0, .slice none 0 0, .slice none 0 0] 27)) nmsO
    rw [World.size_alloc, World.size_alloc, World.size_alloc, ← hW2] at this; exact this
  have hB2 : Below w.heap.size w W2 := by rw [hW2]; exact ((((Below.refl _ _).alloc (Nat.le_refl _) _).alloc (by simp) _).alloc (by simp; omega) _).alloc (by simp; omega) _
  clear hW2
  have c0 : W2.cell? ⟨w.heap.size, 0, none⟩ = some (.int .i64 code) := by rw [cellB k0]; rfl
  have d0 : W2.cell? ⟨w.heap.size + 1, 0, none⟩ = some (.int .i64 id) := by rw [cellB k1]; rfl
  have d3 : W2.cell? ⟨w.heap.size + 1, 3, none⟩ = some (.string nm) := by rw [cellB k1]; rfl
  have d4 : W2.cell? ⟨w.heap.size + 1, 4, none⟩ = some (.int .i64 ty) := by rw [cellB k1]; rfl
  have n0 : ¬ w.heap.size = W2.heap.size := by omega
  have n1 : ¬ w.heap.size + 1 = W2.heap.size := by omega
  have HLY : Hid (Ly w (W2.drew.alloc (.cells #[.int .i64 id, .bool true, .int .i64 cd, .string nm, .int .i64 ty, .slice none 0 0, .slice none 0 0, .slice none 0 0] 27)) W2.heap.size #[.int .i64 code, .int .i64 which, .int .i64 many, .slice ar nr cr] #[.int .i64 id, .bool false, .int .i64 0, .string nm, .int .i64 ty, .slice none 0 0, .slice none 0 0, .slice none 0 0] #[.int .i64 0, .bool false, .int .i64 0, .string ⟨#[]⟩, .int .i64 0, .slice none 0 0, .slice none 0 0, .slice none 0 0] id cd nm ty (.slice none 0 0) (.slice none 0 0) (.slice none 0 0) [] [] [] 0) :=
    ⟨hB2.drew.alloc (by show w.heap.size ≤ W2.heap.size; omega) _, blk_old (w := W2.drew) k0 _, blk_old (w := W2.drew) k1 _, blk_old (w := W2.drew) k2 _, blk_old (w := W2.drew) k3 _, Go.heap_alloc_new W2.drew _, hsz, World.ownsRow_nil _ _ _ _, World.ownsRow_nil _ _ _ _, World.ownsRow_nil _ _ _ _, fun g h => by simp [Value.ownBlock] at h, fun g h => by simp [Value.ownBlock] at h, fun g h => by simp [Value.ownBlock] at h, rfl, rfl, rfl, Nat.le_refl _⟩
  clear hsz k0 k1 k2 k3
  go_cut [6] (fun s wc => s = .pointer (some ⟨W2.heap.size, 0, none⟩) ∧ wc = W2.drew.alloc (.cells #[.int .i64 id, .bool true, .int .i64 cd, .string nm, .int .i64 ty, .slice none 0 0, .slice none 0 0, .slice none 0 0] 27))
  case first =>
    go_region_held3 (fun w' => w'.cell? ⟨w.heap.size, 0, none⟩ = some (.int .i64 code) ∧ w'.cell? ⟨w.heap.size + 1, 0, none⟩ = some (.int .i64 id) ∧ w'.cell? ⟨w.heap.size + 1, 3, none⟩ = some (.string nm) ∧ w'.cell? ⟨w.heap.size + 1, 4, none⟩ = some (.int .i64 ty)) (go_keep)
      (first | (go_at_call 5; refine (HC'.out _).mono ?_; rintro e w1 ⟨rfl, rfl⟩))
    all_goals (go_wp2_with fail; go_meet; exact ⟨rfl, rfl⟩)
  case rest =>
    obtain ⟨rfl, rfl⟩ := hcut
    generalize W2.heap.size = R at *
    clear n0 n1 c0 d0 d3 d4
    go_wp2
    go_loopw [7] (fun i wr => ∃ (j k : Nat) (va vs vm : Value) (la ls lm : List Rec), j ≤ 18 ∧ Hid (j = 3 * k) ∧ i = .int .i64 j ∧ Ly w wr R #[.int .i64 code, .int .i64 which, .int .i64 many, .slice ar nr cr] #[.int .i64 id, .bool false, .int .i64 0, .string nm, .int .i64 ty, .slice none 0 0, .slice none 0 0, .slice none 0 0] #[.int .i64 0, .bool false, .int .i64 0, .string ⟨#[]⟩, .int .i64 0, .slice none 0 0, .slice none 0 0, .slice none 0 0] id cd nm ty va vs vm la ls lm k) (fun i _ => 18 - (intOf i).toNat)
    case atStart => exact ⟨0, 0, _, _, _, [], [], [], Nat.zero_le _, rfl, rfl, HLY.out⟩
    case round =>
      obtain ⟨j, k, va, vs, vm, la, ls, lm, hj, hjk, rfl, hly⟩ := hrel
      obtain ⟨aa, ca, rfl⟩ := own_shape hly.a
      obtain ⟨as_, cs, rfl⟩ := own_shape hly.s
      obtain ⟨am, cm, rfl⟩ := own_shape hly.m
      have hb0 := hly.b0
      have hb1 := hly.b1
      have l3 : wr.cell? ⟨w.heap.size, 3, none⟩ = some (.slice ar nr cr) := by rw [cellB hb0]; rfl
      by_cases h1 : j + 2 < nr
      · by_cases h2 : j < 18
        · obtain ⟨g, o, z0, z1, z2, rfl, hg, e0, e1, e2, i0, i1, i2⟩ := rec3 HR.out h1
          rw [← hly.bel.cell (p := ⟨g, o + j, none⟩) hg] at e0
          rw [← hly.bel.cell (p := ⟨g, o + (j + 1), none⟩) hg] at e1
          rw [← hly.bel.cell (p := ⟨g, o + (j + 2), none⟩) hg] at e2
          obtain ⟨p0, hp0, lp0⟩ := pick_nat z0 18 (by decide)
          obtain ⟨p1, hp1, lp1⟩ := pick_nat z1 4 (by decide)
          obtain ⟨p2, hp2, lp2⟩ := pick_nat z2 1000 (by decide)
          obtain ⟨x0, f0, ok0⟩ := nms_at hly.b3 lp0
          have HP0 : Hid (pickZ z0 18 = p0) := hp0
          have HP1 : Hid (pickZ z1 4 = p1) := hp1
          have HP2 : Hid (pickZ z2 1000 = p2) := hp2
          clear hp0 hp1 hp2
          have t0 : (0 : Int) ≤ (j : Int) := by omega
          have t1 : (j : Int) < (nr : Int) := by omega
          have t2 : (0 : Int) ≤ (j : Int) + 1 := by omega
          have t3 : (j : Int) + 1 < (nr : Int) := by omega
          have t4 : (0 : Int) ≤ (j : Int) + 2 := by omega
          have t5 : (j : Int) + 2 < (nr : Int) := by omega
          have t6 : IntKind.i64.wrap ((j : Int) + 1) = (j : Int) + 1 := Go.IntWalk.i64_in _ (by omega)
          have t7 : IntKind.i64.wrap ((j : Int) + 2) = (j : Int) + 2 := Go.IntWalk.i64_in _ (by omega)
          have t8 : ((j : Int) + 1).toNat = j + 1 := by omega
          have t9 : ((j : Int) + 2).toNat = j + 2 := by omega
          have s0 : (0 : Int) ≤ (p0 : Int) := by omega
          have s1 : IntKind.i64.wrap (1 + (p1 : Int)) = 1 + (p1 : Int) := Go.IntWalk.i64_in _ (by omega)
          have s2 : IntKind.i64.wrap (1 + (p2 : Int)) = 1 + (p2 : Int) := Go.IntWalk.i64_in _ (by omega)
          go_wp2_with fail
          go_cut [8] (fun s wc => s = .pointer (some ⟨wr.heap.size, 0, none⟩) ∧ wc = wr.drew.alloc (.cells #[.string x0, .int .i64 (1 + (p1 : Int)), .int .i64 (1 + (p2 : Int)), .int .i64 0, .string ⟨#[]⟩] 40))
          case first =>
            clear hly hb0 hb1 HLY HC' HR hn hc hjk h1 h2 hj ok0 hg hB2
            go_region_held3 (fun w' => w'.cell? ⟨w.heap.size, 3, none⟩ = some (.slice (some ⟨g, o, none⟩) nr cr) ∧ w'.cell? ⟨g, o + j, none⟩ = some (.int .i64 z0) ∧ w'.cell? ⟨g, o + (j + 1), none⟩ = some (.int .i64 z1) ∧ w'.cell? ⟨g, o + (j + 2), none⟩ = some (.int .i64 z2) ∧ w'.cell? ⟨w.heap.size + 1 + 1 + 1, p0, none⟩ = some (.string x0)) (go_keep)
              (first
                | (go_at_call_of 5 (Value.int IntKind.i64 z0); refine (pick_is z0 18 p0 _ i0 (by decide) HP0.out).mono ?_; rintro e w1 ⟨rfl, rfl⟩)
                | (go_at_call_of 5 (Value.int IntKind.i64 z1); refine (pick_is z1 4 p1 _ i1 (by decide) HP1.out).mono ?_; rintro e w1 ⟨rfl, rfl⟩)
                | (go_at_call_of 5 (Value.int IntKind.i64 z2); refine (pick_is z2 1000 p2 _ i2 (by decide) HP2.out).mono ?_; rintro e w1 ⟨rfl, rfl⟩))
            all_goals (go_wp2_with fail; go_meet; exact ⟨rfl, rfl⟩)
          case rest =>
            obtain ⟨rfl, rfl⟩ := hcut
            have hRl : R < wr.heap.size := (Array.getElem?_eq_some_iff.1 hly.bR).1
            have bwx : Below wr.heap.size wr (wr.drew.alloc (.cells #[.string x0, .int .i64 (1 + (p1 : Int)), .int .i64 (1 + (p2 : Int)), .int .i64 0, .string ⟨#[]⟩] 40)) := ((Below.refl wr.heap.size wr).drew).alloc (Nat.le_refl _) _
            have bx : boxS wr.heap.size (wr.drew.alloc (.cells #[.string x0, .int .i64 (1 + (p1 : Int)), .int .i64 (1 + (p2 : Int)), .int .i64 0, .string ⟨#[]⟩] 40)) x0 (1 + (p1 : Int)) (1 + (p2 : Int)) 0 ⟨#[]⟩ := Go.heap_alloc_new wr.drew _
            obtain ⟨q0, hq0, lq0⟩ := pick_nat z0 4 (by decide)
            obtain ⟨q1, hq1, lq1⟩ := pick_nat z2 256 (by decide)
            obtain ⟨q2, hq2, lq2⟩ := pick_nat z2 18 (by decide)
            obtain ⟨x2, f2, ok2⟩ := nms_at hly.b3 lq2
            have HQ0 : Hid (pickZ z0 4 = q0) := hq0
            have HQ1 : Hid (pickZ z2 256 = q1) := hq1
            have HQ2 : Hid (pickZ z2 18 = q2) := hq2
            clear hq0 hq1 hq2 f0 hb0 hb1
            generalize wr.drew.alloc (.cells #[.string x0, .int .i64 (1 + (p1 : Int)), .int .i64 (1 + (p2 : Int)), .int .i64 0, .string ⟨#[]⟩] 40) = wx at bwx bx ⊢
            obtain ⟨X, hX⟩ : ∃ X, X = wr.heap.size := ⟨_, rfl⟩
            rw [← hX] at bwx bx hRl ⊢
            have HXX : Hid (X = wr.heap.size) := hX
            have hg' : g < X := by have := hly.bel.size; omega
            have hb1l : w.heap.size + 1 < X := by have := (Array.getElem?_eq_some_iff.1 hly.b1).1; omega
            have hb3l : w.heap.size + 1 + 1 + 1 < X := by have := (Array.getElem?_eq_some_iff.1 hly.b3).1; omega
            clear hX
            have m1 : wr.cell? ⟨w.heap.size + 1, 3, none⟩ = some (.string nm) := by rw [cellB hly.b1]; rfl
            have m2 : wr.cell? ⟨w.heap.size, 1, none⟩ = some (.int .i64 which) := by rw [cellB hly.b0]; rfl
            have bwx' := bwx
            have CE : ∀ wc, Below X wr wc → wc.cell? ⟨w.heap.size, 3, none⟩ = some (.slice (some ⟨g, o, none⟩) nr cr) ∧ wc.cell? ⟨g, o + j, none⟩ = some (.int .i64 z0) ∧ wc.cell? ⟨g, o + (j + 2), none⟩ = some (.int .i64 z2) ∧ wc.cell? ⟨w.heap.size + 1, 3, none⟩ = some (.string nm) ∧ wc.cell? ⟨w.heap.size + 1 + 1 + 1, q2, none⟩ = some (.string x2) ∧ wc.cell? ⟨w.heap.size, 1, none⟩ = some (.int .i64 which) := fun wc hb =>
              ⟨(hb.cell (p := ⟨w.heap.size, 3, none⟩) (by show w.heap.size < X; omega)).trans l3, (hb.cell (p := ⟨g, o + j, none⟩) hg').trans e0, (hb.cell (p := ⟨g, o + (j + 2), none⟩) hg').trans e2, (hb.cell (p := ⟨w.heap.size + 1, 3, none⟩) hb1l).trans m1, (hb.cell (p := ⟨w.heap.size + 1 + 1 + 1, q2, none⟩) hb3l).trans f2, (hb.cell (p := ⟨w.heap.size, 1, none⟩) (by show w.heap.size < X; omega)).trans m2⟩
            have HCE : Hid (∀ wc, Below X wr wc → wc.cell? ⟨w.heap.size, 3, none⟩ = some (.slice (some ⟨g, o, none⟩) nr cr) ∧ wc.cell? ⟨g, o + j, none⟩ = some (.int .i64 z0) ∧ wc.cell? ⟨g, o + (j + 2), none⟩ = some (.int .i64 z2) ∧ wc.cell? ⟨w.heap.size + 1, 3, none⟩ = some (.string nm) ∧ wc.cell? ⟨w.heap.size + 1 + 1 + 1, q2, none⟩ = some (.string x2) ∧ wc.cell? ⟨w.heap.size, 1, none⟩ = some (.int .i64 which)) := CE
            have HLYr : Hid (Ly w wr R #[.int .i64 code, .int .i64 which, .int .i64 many, .slice (some ⟨g, o, none⟩) nr cr] #[.int .i64 id, .bool false, .int .i64 0, .string nm, .int .i64 ty, .slice none 0 0, .slice none 0 0, .slice none 0 0] #[.int .i64 0, .bool false, .int .i64 0, .string ⟨#[]⟩, .int .i64 0, .slice none 0 0, .slice none 0 0, .slice none 0 0] id cd nm ty (.slice aa la.length ca) (.slice as_ ls.length cs) (.slice am lm.length cm) la ls lm k) := hly
            clear CE l3 e0 e1 e2 m1 m2 f2 hly bwx' t2 t3 t6 t8 s0 s1 s2
            obtain ⟨y1, y2, y3, y4, y5, y6⟩ := HCE.out wx bwx
            obtain ⟨v0, v1, v2, v3, v4⟩ := boxS_cells bx
            have vf : ∀ i, wx.frozen? ⟨X, i, none⟩ = false := fun i => frozen_of_row wx X i _ 40 bx
            go_upto_if 66 with (go_at_call 5; refine (pick_is z0 4 q0 _ i0 (by decide) HQ0.out).mono ?_; rintro e w1 ⟨rfl, rfl⟩)
            go_cut [] (fun wc => ∃ x, nameOk (tl x) = true ∧ boxS X wc x (1 + (p1 : Int)) (1 + (p2 : Int)) 0 ⟨#[]⟩ ∧ Below X wr wc)
            case first =>
              by_cases hq : q0 = 0
              · subst hq
                go_wp2
                go_meet
                exact ⟨nm, hn, boxS_0 bx nm, bwx.setCell (Nat.le_refl X) _⟩
              · have hqb : ((q0 : Int) == 0) = false := by simp; omega
                go_wp2
                go_meet
                exact ⟨x0, ok0, bx, bwx⟩
            case rest =>
              clear y1 y2 y3 y4 y5 y6 v0 v1 v2 v3 v4 vf bx bwx
              obtain ⟨x, okx, bx, bwx⟩ := hcut
              obtain ⟨y1, y2, y3, y4, y5, y6⟩ := HCE.out wc bwx
              obtain ⟨v0, v1, v2, v3, v4⟩ := boxS_cells bx
              have vf : ∀ i, wc.frozen? ⟨X, i, none⟩ = false := fun i => frozen_of_row wc X i _ 40 bx
              go_upto_block 2 with fail
              go_cut [] (fun wd => ∃ rn rt rl ru rg, recOk ⟨rn, rt, rl, ru, rg⟩ = true ∧ boxS X wd rn rt rl ru rg ∧ Below X wr wd)
              case first =>
                have httl : 1 ≤ 1 + (p2 : Int) ∧ 1 + (p2 : Int) ≤ 1000 := by omega
                obtain rfl | rfl | rfl | rfl : p1 = 0 ∨ p1 = 1 ∨ p1 = 2 ∨ p1 = 3 := by omega
                · go_wp2_with (go_at_call 5; refine (pick_is z2 256 q1 _ i2 (by decide) HQ1.out).mono ?_; rintro e w1 ⟨rfl, rfl⟩)
                  go_meet
                  exact ⟨x, 1, 1 + (p2 : Int), q1, ⟨#[]⟩, rec_1 okx httl (by omega), boxS_3 bx _, bwx.setCell (Nat.le_refl X) _⟩
                · go_wp2_with (go_at_call 5; refine (pick_is z2 18 q2 _ i2 (by decide) HQ2.out).mono ?_; rintro e w1 ⟨rfl, rfl⟩)
                  go_meet
                  exact ⟨x, 2, 1 + (p2 : Int), 0, x2, rec_23 okx httl (.inl rfl) ok2, boxS_4 bx _, bwx.setCell (Nat.le_refl X) _⟩
                · go_wp2_with (go_at_call 5; refine (pick_is z2 18 q2 _ i2 (by decide) HQ2.out).mono ?_; rintro e w1 ⟨rfl, rfl⟩)
                  go_meet
                  exact ⟨x, 3, 1 + (p2 : Int), 0, x2, rec_23 okx httl (.inr rfl) ok2, boxS_4 bx _, bwx.setCell (Nat.le_refl X) _⟩
                · go_wp2_with fail
                  go_meet
                  exact ⟨x, 4, 1 + (p2 : Int), 0, ⟨#[]⟩, rec_4 okx httl, bx, bwx⟩
              case rest =>
                clear y1 y2 y3 y4 y5 y6 v0 v1 v2 v3 v4 vf bx bwx
                obtain ⟨rn, rt, rl, ru, rg, okr, bx, bwx⟩ := hcut
                obtain ⟨y1, y2, y3, y4, y5, y6⟩ := HCE.out wc bwx
                obtain ⟨v0, v1, v2, v3, v4⟩ := boxS_cells bx
                have hl := HLYr.out.fresh (w' := wc) (by rw [← HXX.out]; exact bwx)
                have hlena : la.length ≤ 6 := by have := hl.n; have := hjk.out; omega
                have hlens : ls.length ≤ 6 := by have := hl.n; have := hjk.out; omega
                have hlenm : lm.length ≤ 6 := by have := hl.n; have := hjk.out; omega
                have hlo5 : ∀ o, R + 1 ≤ (wc.alloc o).heap.size := fun o => by have := (Array.getElem?_eq_some_iff.1 hl.bR).1; simp; omega
                obtain ⟨_, _, _, _, _, g5', g6', g7'⟩ := fill8_cells hl.bR
                have hyI : I64 (wrap64 (which + (j : Int))) := wrap_I64 _
                obtain ⟨s, hs, ls3⟩ := pick_nat (wrap64 (which + (j : Int))) 3 (by decide)
                have HS : Hid (pickZ (wrap64 (which + (j : Int))) 3 = s) := hs
                clear hs
                obtain rfl | rfl | rfl : s = 0 ∨ s = 1 ∨ s = 2 := by omega
                · go_wp2_with (first
                    | (go_at_call 5; refine (pick_to _ 3 0 _ hyI (by decide) HS.out).mono ?_; rintro e w1 ⟨rfl, rfl⟩)
                    | (at_builtin; refine wpList_append_two _ rfl _ _ 25 rfl (R + 1) 40 i40 (.agg #[.string ByteArray.empty, .int .i64 0, .int .i64 0, .int .i64 0, .string ByteArray.empty]) 5 56 hu25 hi40 hz0 hz1 hz2 rfl _ _ _ rfl (hl.a.alloc _) ⟨wc.heap.size, 0, none⟩ 1 1 (rc1 ⟨rn, rt, rl, ru, rg⟩) rfl rfl (World.news_of_block (Go.heap_alloc_new _ _)) (rc1_one _) (by decide) (room40 hlena).1 (room40 hlena).2 (hlo5 _) ?_))
                  intro g5 c5 w5 r5 o5 L5
                  have G5 : wc.grownBy w5 (Value.slice aa la.length ca).ownBlock := grown_trans (World.grownBy_alloc _ _ _) L5.1
                  have hat : (Value.slice aa la.length ca).ownBlock = some g5 ∨ wc.heap.size ≤ g5 := by
                    rcases L5.2.1 with h | ⟨h, _⟩
                    · exact .inl h
                    · right; simp at h; omega
                  have hR5 := box_grown hl.bR hl.a (Nat.le_refl R) G5
                  have k5 : w5.cell? ⟨R, 5, none⟩ = some (.slice aa la.length ca) := by rw [cellB hR5]; rfl
                  have kf : w5.frozen? ⟨R, 5, none⟩ = false := frozen_of_row w5 R 5 _ 27 hR5
                  have NL : Hid (Ly w (w5.setCell ⟨R, 5, none⟩ (.slice (some ⟨g5, 0, none⟩) (la.length + 1) c5)) R _ _ _ id cd nm ty _ _ _ _ _ _ (k + 1)) := hl.app_a okr G5 hat r5
                  clear o5 L5 r5 hat G5 hR5
                  go_wp2
                  go_roundw
                  case rel => exact ⟨j + 3, k + 1, _, _, _, _, _, _, by have := hjk.out; omega, (by show j + 3 = 3 * (k + 1); have := hjk.out; omega), by go_num, NL.out⟩
                  case measure => simp [intOf]; omega
                · go_wp2_with (first
                    | (go_at_call 5; refine (pick_to _ 3 1 _ hyI (by decide) HS.out).mono ?_; rintro e w1 ⟨rfl, rfl⟩)
                    | (at_builtin; refine wpList_append_two _ rfl _ _ 25 rfl (R + 1) 40 i40 (.agg #[.string ByteArray.empty, .int .i64 0, .int .i64 0, .int .i64 0, .string ByteArray.empty]) 5 56 hu25 hi40 hz0 hz1 hz2 rfl _ _ _ rfl (hl.s.alloc _) ⟨wc.heap.size, 0, none⟩ 1 1 (rc1 ⟨rn, rt, rl, ru, rg⟩) rfl rfl (World.news_of_block (Go.heap_alloc_new _ _)) (rc1_one _) (by decide) (room40 hlens).1 (room40 hlens).2 (hlo5 _) ?_))
                  intro g5 c5 w5 r5 o5 L5
                  have G5 : wc.grownBy w5 (Value.slice as_ ls.length cs).ownBlock := grown_trans (World.grownBy_alloc _ _ _) L5.1
                  have hat : (Value.slice as_ ls.length cs).ownBlock = some g5 ∨ wc.heap.size ≤ g5 := by
                    rcases L5.2.1 with h | ⟨h, _⟩
                    · exact .inl h
                    · right; simp at h; omega
                  have hR5 := box_grown hl.bR hl.s (Nat.le_refl R) G5
                  have k5 : w5.cell? ⟨R, 6, none⟩ = some (.slice as_ ls.length cs) := by rw [cellB hR5]; rfl
                  have kf : w5.frozen? ⟨R, 6, none⟩ = false := frozen_of_row w5 R 6 _ 27 hR5
                  have NL : Hid (Ly w (w5.setCell ⟨R, 6, none⟩ (.slice (some ⟨g5, 0, none⟩) (ls.length + 1) c5)) R _ _ _ id cd nm ty _ _ _ _ _ _ (k + 1)) := hl.app_s okr G5 hat r5
                  clear o5 L5 r5 hat G5 hR5
                  go_wp2
                  go_roundw
                  case rel => exact ⟨j + 3, k + 1, _, _, _, _, _, _, by have := hjk.out; omega, (by show j + 3 = 3 * (k + 1); have := hjk.out; omega), by go_num, NL.out⟩
                  case measure => simp [intOf]; omega
                · go_wp2_with (first
                    | (go_at_call 5; refine (pick_to _ 3 2 _ hyI (by decide) HS.out).mono ?_; rintro e w1 ⟨rfl, rfl⟩)
                    | (at_builtin; refine wpList_append_two _ rfl _ _ 25 rfl (R + 1) 40 i40 (.agg #[.string ByteArray.empty, .int .i64 0, .int .i64 0, .int .i64 0, .string ByteArray.empty]) 5 56 hu25 hi40 hz0 hz1 hz2 rfl _ _ _ rfl (hl.m.alloc _) ⟨wc.heap.size, 0, none⟩ 1 1 (rc1 ⟨rn, rt, rl, ru, rg⟩) rfl rfl (World.news_of_block (Go.heap_alloc_new _ _)) (rc1_one _) (by decide) (room40 hlenm).1 (room40 hlenm).2 (hlo5 _) ?_))
                  intro g5 c5 w5 r5 o5 L5
                  have G5 : wc.grownBy w5 (Value.slice am lm.length cm).ownBlock := grown_trans (World.grownBy_alloc _ _ _) L5.1
                  have hat : (Value.slice am lm.length cm).ownBlock = some g5 ∨ wc.heap.size ≤ g5 := by
                    rcases L5.2.1 with h | ⟨h, _⟩
                    · exact .inl h
                    · right; simp at h; omega
                  have hR5 := box_grown hl.bR hl.m (Nat.le_refl R) G5
                  have k5 : w5.cell? ⟨R, 7, none⟩ = some (.slice am lm.length cm) := by rw [cellB hR5]; rfl
                  have kf : w5.frozen? ⟨R, 7, none⟩ = false := frozen_of_row w5 R 7 _ 27 hR5
                  have NL : Hid (Ly w (w5.setCell ⟨R, 7, none⟩ (.slice (some ⟨g5, 0, none⟩) (lm.length + 1) c5)) R _ _ _ id cd nm ty _ _ _ _ _ _ (k + 1)) := hl.app_m okr G5 hat r5
                  clear o5 L5 r5 hat G5 hR5
                  go_wp2
                  go_roundw
                  case rel => exact ⟨j + 3, k + 1, _, _, _, _, _, _, by have := hjk.out; omega, (by show j + 3 = 3 * (k + 1); have := hjk.out; omega), by go_num, NL.out⟩
                  case measure => simp [intOf]; omega
        · have hbz := hly.b2
          obtain ⟨x0, x1, x2, x3, x4, x5, x6, x7⟩ := fill8_cells hly.bR
          obtain ⟨y0, y1, y2, y3, y4, y5, y6, y7⟩ := fill8_cells hbz
          have yf : ∀ i, wr.frozen? ⟨w.heap.size + 1 + 1, i, none⟩ = false := fun i => frozen_of_row wr _ i _ 27 hbz
          have HL : Hid (Ly w wr R #[.int .i64 code, .int .i64 which, .int .i64 many, .slice ar nr cr] #[.int .i64 id, .bool false, .int .i64 0, .string nm, .int .i64 ty, .slice none 0 0, .slice none 0 0, .slice none 0 0] #[.int .i64 0, .bool false, .int .i64 0, .string ⟨#[]⟩, .int .i64 0, .slice none 0 0, .slice none 0 0, .slice none 0 0] id cd nm ty (.slice aa la.length ca) (.slice as_ ls.length cs) (.slice am lm.length cm) la ls lm k) := hly
          have HB : Hid (boxS8 (w.heap.size + 1 + 1) wr) := hbz
          clear hly hb0 hb1 hbz
          go_wp2_with fail
          obtain ⟨Y, hY⟩ : ∃ Y, Y = fill8 (w.heap.size + 1 + 1) (.int .i64 id) (.bool true) (.int .i64 cd) (.string nm) (.int .i64 ty) (.slice aa la.length ca) (.slice as_ ls.length cs) (.slice am lm.length cm) wr := ⟨_, rfl⟩
          have HE : Hid (Below w.heap.size w Y ∧ Y.ownsRow w.heap.size 40 5 (.slice aa la.length ca) la.length (rcells la) ∧ Y.ownsRow w.heap.size 40 5 (.slice as_ ls.length cs) ls.length (rcells ls) ∧ Y.ownsRow w.heap.size 40 5 (.slice am lm.length cm) lm.length (rcells lm)) := by rw [hY]; exact ly_end HL.out
          have hh : Y.heap[w.heap.size + 1 + 1]? = some (.cells #[.int .i64 id, .bool true, .int .i64 cd, .string nm, .int .i64 ty, .slice aa la.length ca, .slice as_ ls.length cs, .slice am lm.length cm] 27 (0, 0)) := by rw [hY]; exact fill8_heap HB.out
          unfold fill8 at hY
          rw [← hY]
          clear hY x0 x1 x2 x3 x4 x5 x6 x7 y0 y1 y2 y3 y4 y5 y6 y7 yf
          obtain ⟨x0, x1, x2, x3, x4, x5, x6, x7⟩ := fill8_cells hh
          refine bodyPost_ret (v := .agg #[.int .i64 id, .bool true, .int .i64 cd, .string nm, .int .i64 ty, .slice aa la.length ca, .slice as_ ls.length cs, .slice am lm.length cm]) (by simp [results, Tryd.results4, go_sem, x0, x1, x2, x3, x4, x5, x6, x7]) rfl ?_
          have hl := HL.out
          exact ⟨_, _, _, la, ls, lm, rfl, HE.out.2.1, HE.out.2.2.1, HE.out.2.2.2, hl.oa, hl.os, hl.om, by have := hl.n; have := hjk.out; omega, HE.out.1⟩
      · have hbz := hly.b2
        obtain ⟨x0, x1, x2, x3, x4, x5, x6, x7⟩ := fill8_cells hly.bR
        obtain ⟨y0, y1, y2, y3, y4, y5, y6, y7⟩ := fill8_cells hbz
        have yf : ∀ i, wr.frozen? ⟨w.heap.size + 1 + 1, i, none⟩ = false := fun i => frozen_of_row wr _ i _ 27 hbz
        have HL : Hid (Ly w wr R #[.int .i64 code, .int .i64 which, .int .i64 many, .slice ar nr cr] #[.int .i64 id, .bool false, .int .i64 0, .string nm, .int .i64 ty, .slice none 0 0, .slice none 0 0, .slice none 0 0] #[.int .i64 0, .bool false, .int .i64 0, .string ⟨#[]⟩, .int .i64 0, .slice none 0 0, .slice none 0 0, .slice none 0 0] id cd nm ty (.slice aa la.length ca) (.slice as_ ls.length cs) (.slice am lm.length cm) la ls lm k) := hly
        have HB : Hid (boxS8 (w.heap.size + 1 + 1) wr) := hbz
        clear hly hb0 hb1 hbz
        go_wp2_with fail
        obtain ⟨Y, hY⟩ : ∃ Y, Y = fill8 (w.heap.size + 1 + 1) (.int .i64 id) (.bool true) (.int .i64 cd) (.string nm) (.int .i64 ty) (.slice aa la.length ca) (.slice as_ ls.length cs) (.slice am lm.length cm) wr := ⟨_, rfl⟩
        have HE : Hid (Below w.heap.size w Y ∧ Y.ownsRow w.heap.size 40 5 (.slice aa la.length ca) la.length (rcells la) ∧ Y.ownsRow w.heap.size 40 5 (.slice as_ ls.length cs) ls.length (rcells ls) ∧ Y.ownsRow w.heap.size 40 5 (.slice am lm.length cm) lm.length (rcells lm)) := by rw [hY]; exact ly_end HL.out
        have hh : Y.heap[w.heap.size + 1 + 1]? = some (.cells #[.int .i64 id, .bool true, .int .i64 cd, .string nm, .int .i64 ty, .slice aa la.length ca, .slice as_ ls.length cs, .slice am lm.length cm] 27 (0, 0)) := by rw [hY]; exact fill8_heap HB.out
        unfold fill8 at hY
        rw [← hY]
        clear hY x0 x1 x2 x3 x4 x5 x6 x7 y0 y1 y2 y3 y4 y5 y6 y7 yf
        obtain ⟨x0, x1, x2, x3, x4, x5, x6, x7⟩ := fill8_cells hh
        refine bodyPost_ret (v := .agg #[.int .i64 id, .bool true, .int .i64 cd, .string nm, .int .i64 ty, .slice aa la.length ca, .slice as_ ls.length cs, .slice am lm.length cm]) (by simp [results, Tryd.results4, go_sem, x0, x1, x2, x3, x4, x5, x6, x7]) rfl ?_
        have hl := HL.out
        exact ⟨_, _, _, la, ls, lm, rfl, HE.out.2.1, HE.out.2.2.1, HE.out.2.2.2, hl.oa, hl.os, hl.om, by have := hl.n; have := hjk.out; omega, HE.out.1⟩
end Go.Proofs.YtefdokkadckbbaaDoor
