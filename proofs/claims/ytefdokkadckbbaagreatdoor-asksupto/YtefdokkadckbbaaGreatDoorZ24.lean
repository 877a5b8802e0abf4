/- Qc -/
import Derived.Test.YtefdokkadckbbaaGreatDoorZ23
import Derived.LaidEqlPtr
namespace Go.Proofs.YtefdokkadckbbaaGreatDoor
open Go.RowKit
set_option maxRecDepth 100000
theorem rEncode_r (id code : Int) (nm : ByteArray) (ty : Int) (w : World) (hn : nm.size ≤ 1048576) :
  Calls Tryz.prog 124 #[.agg #[.int .i64 id, .bool true, .int .i64 code, .string nm, .int .i64 ty, .slice none 0 0, .slice none 0 0, .slice none 0 0]] w fun e w' => e = .returned (.tuple #[.string (rB id code nm ty), .int .i64 (encE ⟨id, true, code, nm, ty, [], [], []⟩)]) ∧ Below w.heap.size w w' :=
 rEncode_any ⟨id, true, code, nm, ty, [], [], []⟩ _ _ _ w (small_none id true code nm ty hn) (recs_none w none 0) (recs_none w none 0) (recs_none w none 0)
theorem rEncode_q (id : Int) (nm : ByteArray) (ty : Int) (w : World) (hn : nm.size ≤ 1048576) :
  Calls Tryz.prog 124 #[.agg #[.int .i64 id, .bool false, .int .i64 0, .string nm, .int .i64 ty, .slice none 0 0, .slice none 0 0, .slice none 0 0]] w fun e w' => e = .returned (.tuple #[.string (qB id nm ty), .int .i64 (encE ⟨id, false, 0, nm, ty, [], [], []⟩)]) ∧ Below w.heap.size w w' :=
 rEncode_any ⟨id, false, 0, nm, ty, [], [], []⟩ _ _ _ w (small_none id false 0 nm ty hn) (recs_none w none 0) (recs_none w none 0) (recs_none w none 0)
theorem info217 : (Tryz.prog.info? 217).map (fun i => (i.zero, i.size, i.bytes)) = some (some (.pointer none), 1, 8) := by kernel_rfl
theorem u161 : Tryz.prog.underlying 161 = some (.slice 217) := by kernel_rfl
theorem u217 : Tryz.prog.underlying 217 = some (.pointer 220) := by kernel_rfl
theorem info220 : ∃ j, Tryz.prog.info? 220 = some j ∧ j.size ≠ 0 := by
 have h : (Tryz.prog.info? 220).map (fun i => i.size) = some 17 := by kernel_rfl
 cases hj : Tryz.prog.info? 220 with
 | none => rw [hj] at h; cases h
 | some j => rw [hj] at h; exact ⟨j, rfl, by simp at h; omega⟩
theorem task_same (b : Nat) (w : World) : (binOp .neq 217 (.pointer (some ⟨b, 0, none⟩)) (.pointer (some ⟨b, 0, none⟩))).run Tryz.prog w = .ok (.bool false) w := by
 obtain ⟨j, hj, _⟩ := info220
 have h : ∀ d : Nat, (Op.equalIn (d + 1) 217 (.pointer (some ⟨b, 0, none⟩)) (.pointer (some ⟨b, 0, none⟩))).run Tryz.prog w = .ok true w := fun d => by
  simp [Op.equalIn, run_underlying u217, sizeOf, typeInfo, hj, run_sameAddr_same]
 simp only [binOp]
 simp [Op.equal, Op.maxDepth, h 9999]
theorem task_other {b b' : Nat} {w : World} {c c' : Array Value} (hne : b ≠ b') (hb : w.heap[b]? = some (.cells c 220 (0, 0))) (hb' : w.heap[b']? = some (.cells c' 220 (0, 0))) : (binOp .neq 217 (.pointer (some ⟨b, 0, none⟩)) (.pointer (some ⟨b', 0, none⟩))).run Tryz.prog w = .ok (.bool true) w := by
 obtain ⟨j, hj, hs⟩ := info220
 have h : ∀ d : Nat, (Op.equalIn (d + 1) 217 (.pointer (some ⟨b, 0, none⟩)) (.pointer (some ⟨b', 0, none⟩))).run Tryz.prog w = .ok false w := fun d => by
  simp [Op.equalIn, run_underlying u217, sizeOf, typeInfo, hj, hs, run_sameAddr_other w (fun h : (⟨b, 0, none⟩ : Addr) = ⟨b', 0, none⟩ => hne (congrArg Addr.block h)) hb hb']
 simp only [binOp]
 simp [Op.equal, Op.maxDepth, h 9999]
theorem own_val' {W : World} {b e n : Nat} {v : Value} {xs : List Value} {sz : Nat} (h : W.ownsRow b e sz v n xs) : ∃ a c, v = .slice a n c := by
 rcases h.2 with ⟨rfl, h0⟩ | ⟨g, cap, cur, rfl, _⟩
 ·exact ⟨none, 0, by rw [h0]⟩
 ·exact ⟨_, _, rfl⟩
def others (tb : Nat) (l : List Nat) : List Nat := l.filter fun b => b != tb
theorem others_skip {tb b k : Nat} {l : List Nat} (h : l[k]? = some b) (hb : b = tb) : others tb (l.take (k + 1)) = others tb (l.take k) := by
 rw [List.take_add_one, h]
 simp [others, hb]
theorem others_step {tb b k : Nat} {l : List Nat} (h : l[k]? = some b) (hb : b ≠ tb) : others tb (l.take (k + 1)) = others tb (l.take k) ++ [b] := by
 rw [List.take_add_one, h]
 simp [others, hb]
theorem rtasks_at {W : World} {ta : Option Addr} {tc : Nat} {tbs : List Nat} (h : W.ownsRow 0 217 1 (.slice ta tbs.length tc) tbs.length (tbs.map fun b => Value.pointer (some ⟨b, 0, none⟩))) :
  ∀ k b, tbs[k]? = some b → ∃ gb, ta = some ⟨gb, 0, none⟩ ∧ gb < W.heap.size ∧ W.cell? ⟨gb, k, none⟩ = some (.pointer (some ⟨b, 0, none⟩)) := by
 intro k b hb
 rcases h.2 with ⟨h1, h0⟩ | ⟨gb, cap, cur, h1, _, hg, _⟩
 ·have := (List.getElem?_eq_some_iff.1 hb).1; omega
 ·simp only [Value.slice.injEq] at h1
  obtain ⟨rfl, _, rfl⟩ := h1
  exact ⟨gb, rfl, (Array.getElem?_eq_some_iff.1 hg).1, own_cell h (by rw [List.getElem?_map, hb]; rfl)⟩
theorem rtasks_step {W wr w2 : World} {o : Obj} {v v' : Value} {l l' : List Nat} {b : Nat} (hl : l' = l ++ [b]) (hown : wr.ownsRow W.heap.size 217 1 v l.length (l.map fun b => Value.pointer (some ⟨b, 0, none⟩))) (hb : Below W.heap.size W wr)
  (hown' : w2.ownsRow W.heap.size 217 1 v' (l.length + 1) ((l.map fun b => Value.pointer (some ⟨b, 0, none⟩)) ++ [.pointer (some ⟨b, 0, none⟩)])) (hg : (wr.alloc o).grownBy w2 v.ownBlock) :
  w2.ownsRow W.heap.size 217 1 v' l'.length (l'.map fun b => Value.pointer (some ⟨b, 0, none⟩)) ∧ Below W.heap.size W w2 := by
 subst hl
 refine ⟨by simpa using hown', ?_⟩
 exact (hb.alloc hb.size o).grown hg (by have := hb.size; simp; omega) fun k e => (hown.lt k e).1
theorem rreply_end {w W3 : World} {y tb g6 c6 : Nat} {vh vs : Value} {en tr pa mx now rid asked : Int} {ta ra : Option Addr} {tc rc : Nat} {R R' : List (Int × ByteArray)} (tbs : List Nat)
  (p1 : W3.heap[y]? = some (rresO vh en tr pa mx now rid asked (.slice ta tbs.length tc) vs (.slice (some ⟨g6, 0, none⟩) (R.length + 1) c6)))
  (p2 : W3.ownsRow 0 66 2 (.slice (some ⟨g6, 0, none⟩) (R.length + 1) c6) (R.length + 1) (pcells R'))
  (p4 : Keeps (fun k => k = y ∨ (Value.slice ra R.length rc).ownBlock = some k) w W3) (p5 : (Value.slice ra R.length rc).ownBlock = some g6 ∨ w.heap.size ≤ g6) :
  ∀ (a' : Option Addr) (c' : Nat) (wr : World), wr.ownsRow W3.heap.size 217 1 (.slice a' (others tb tbs).length c') (others tb tbs).length ((others tb tbs).map fun b => Value.pointer (some ⟨b, 0, none⟩)) → Below W3.heap.size W3 wr →
   ((wr.setCell ⟨y, 10, none⟩ (.slice a' (others tb tbs).length c')).heap[y]? = some (rresO vh en tr pa mx now rid asked (.slice a' (others tb tbs).length c') vs (.slice (some ⟨g6, 0, none⟩) (R.length + 1) c6)) ∧
   (wr.setCell ⟨y, 10, none⟩ (.slice a' (others tb tbs).length c')).ownsRow 0 66 2 (.slice (some ⟨g6, 0, none⟩) (R.length + 1) c6) (R.length + 1) (pcells R') ∧
   (wr.setCell ⟨y, 10, none⟩ (.slice a' (others tb tbs).length c')).ownsRow w.heap.size 217 1 (.slice a' (others tb tbs).length c') (others tb tbs).length ((others tb tbs).map fun b => Value.pointer (some ⟨b, 0, none⟩)) ∧
   Keeps (fun k => k = y ∨ (Value.slice ra R.length rc).ownBlock = some k) w (wr.setCell ⟨y, 10, none⟩ (.slice a' (others tb tbs).length c')) ∧ ((Value.slice ra R.length rc).ownBlock = some g6 ∨ w.heap.size ≤ g6)) ∧ wr.frozen? ⟨y, 10, none⟩ = false := by
 intro a' c' wr hown hb
 have ly : y < W3.heap.size := (Array.getElem?_eq_some_iff.1 p1).1
 have q1 := (hb.block y ly).trans p1
 refine ⟨⟨?_, ?_, ?_, ?_, p5⟩, frozen_of_row _ y 10 _ 163 q1⟩
 ·have := heap_setCell_same wr y 10 _ 163 (.slice a' (others tb tbs).length c') q1
  simpa using this
 ·refine own_same p2 fun k e => ?_
  rw [Below.heap_setCell _ _ _ _ (show k ≠ y by rintro rfl; exact own_far p2 p1 (by decide) e.symm), hb.block k (p2.lt k e).2]
 ·refine own_low (own_same hown fun k e => Below.heap_setCell _ _ _ _ ?_) p4.size
  rintro rfl
  exact own_far hown q1 (by decide) e.symm
 ·exact (p4.below hb).set (.inl (.inl rfl)) 10 _
set_option maxHeartbeats 4000000 in
theorem rreply_any (y tb : Nat) (vh vs va vs' vm gs : Value) (en tr pa mx now rid asked num id code : Int) (nm : ByteArray) (ty sends wi wa at_ : Int) (wn : ByteArray) (wt : Int) (wz : ByteArray) (ta ra : Option Addr) (tc rc : Nat) (tbs : List Nat) (R : List (Int × ByteArray)) (w : World)
  (hy : w.heap[y]? = some (rresO vh en tr pa mx now rid asked (.slice ta tbs.length tc) vs (.slice ra R.length rc)))
  (ht : w.heap[tb]? = some (rtaskO num id nm ty va vs' vm gs sends wi wa at_ wn wt wz))
  (htk : w.ownsRow 0 217 1 (.slice ta tbs.length tc) tbs.length (tbs.map fun b => Value.pointer (some ⟨b, 0, none⟩))) (hr : w.ownsRow 0 66 2 (.slice ra R.length rc) R.length (pcells R)) (hnm : nm.size ≤ 1048576) (hR : R.length ≤ 33554432) (h8 : tbs.length ≤ 8) (hbs : ∀ b ∈ tbs, ∃ c, w.heap[b]? = some (.cells c 220 (0, 0))) :
  Calls Tryz.prog 128 #[.pointer (some ⟨y, 0, none⟩), .pointer (some ⟨tb, 0, none⟩), .int .i64 code, .slice none 0 0] w fun e w' => e = .returned (.tuple #[]) ∧ ∃ vt' g c,
   w'.heap[y]? = some (rresO vh en tr pa mx now rid asked vt' vs (.slice (some ⟨g, 0, none⟩) (R.length + 1) c)) ∧ w'.ownsRow 0 66 2 (.slice (some ⟨g, 0, none⟩) (R.length + 1) c) (R.length + 1) (pcells (R ++ [(num, rB id code nm ty)])) ∧
   w'.ownsRow w.heap.size 217 1 vt' (others tb tbs).length ((others tb tbs).map fun b => Value.pointer (some ⟨b, 0, none⟩)) ∧
   Keeps (fun k => k = y ∨ (Value.slice ra R.length rc).ownBlock = some k) w w' ∧ ((Value.slice ra R.length rc).ownBlock = some g ∨ w.heap.size ≤ g) := by
 obtain ⟨i0, hi0, hz0, hz1, hz2⟩ := info_parts infoR
 obtain ⟨j0, hj0, hy0, hy1, hy2⟩ := info_parts info217
 have hu63 := u63
 have hu161 := u161
 have ly0 : y < w.heap.size := (Array.getElem?_eq_some_iff.1 hy).1
 have lt0 : tb < w.heap.size := (Array.getElem?_eq_some_iff.1 ht).1
 have hS0 : Below w.heap.size w w.drew := (Below.refl _ _).drew
 have HT : Hid (∀ w', Below w.heap.size w w' → w'.cell? ⟨tb, 0, none⟩ = some (.int .i64 num) ∧ w'.cell? ⟨tb, 1, none⟩ = some (.int .i64 id) ∧ w'.cell? ⟨tb, 4, none⟩ = some (.string nm) ∧ w'.cell? ⟨tb, 5, none⟩ = some (.int .i64 ty)) := by
  intro w' hb
  have := (hb.block tb lt0).trans ht
  refine ⟨?_, ?_, ?_, ?_⟩ <;> (rw [cell_blk this]; rfl)
 go_enter Tryz.func128, Tryz.ntmps128
 go_wp2
 refine wp_region_held_drew (S := fun w' => Below w.heap.size w w') (by kernel_rfl) hS0 (fun hS => ?_)
 refine tkS (i := 0) (v := .pointer (some ⟨tb, 0, none⟩)) rfl hS ?_
 refine tkS (i := 1) (v := .pointer (some ⟨tb, 0, none⟩)) rfl hS ?_
 refine tkS (i := 2) (v := .pointer (some ⟨tb, 1, none⟩)) rfl hS ?_
 refine tkS (i := 3) (v := .pointer (some ⟨tb, 1, none⟩)) rfl hS ?_
 refine tkY (i := 4) (v := .int .i64 id) rfl (Or.inl ⟨by rfl, fun w' hw => by obtain ⟨t0, t1, t4, t5⟩ := HT.out w' hw; go_simp⟩) hS ?_
 refine tkS (i := 5) (v := .int .i64 code) rfl hS ?_
 refine tkS (i := 6) (v := .pointer (some ⟨tb, 0, none⟩)) rfl hS ?_
 refine tkS (i := 7) (v := .pointer (some ⟨tb, 0, none⟩)) rfl hS ?_
 refine tkS (i := 8) (v := .pointer (some ⟨tb, 1, none⟩)) rfl hS ?_
 refine tkS (i := 9) (v := .pointer (some ⟨tb, 4, none⟩)) rfl hS ?_
 refine tkY (i := 10) (v := .string nm) rfl (Or.inl ⟨by rfl, fun w' hw => by obtain ⟨t0, t1, t4, t5⟩ := HT.out w' hw; go_simp⟩) hS ?_
 refine tkS (i := 11) (v := .pointer (some ⟨tb, 0, none⟩)) rfl hS ?_
 refine tkS (i := 12) (v := .pointer (some ⟨tb, 0, none⟩)) rfl hS ?_
 refine tkS (i := 13) (v := .pointer (some ⟨tb, 1, none⟩)) rfl hS ?_
 refine tkS (i := 14) (v := .pointer (some ⟨tb, 5, none⟩)) rfl hS ?_
 refine tkY (i := 15) (v := .int .i64 ty) rfl (Or.inl ⟨by rfl, fun w' hw => by obtain ⟨t0, t1, t4, t5⟩ := HT.out w' hw; go_simp⟩) hS ?_
 refine tkS (i := 16) (v := .slice none 0 0) rfl hS ?_
 refine tkS (i := 17) (v := .agg #[.int .i64 id, .bool true, .int .i64 code, .string nm, .int .i64 ty, .slice none 0 0, .slice none 0 0, .slice none 0 0]) rfl hS ?_
 refine wpAnyH_ready (rs := [18]) (by kernel_rfl) (by simp) ?_
 refine AllReadyH.cons rfl (fun K hK => ?_) AllReadyH.nil
 go_simp
 refine (rEncode_r id code nm ty _ hnm).mono ?_
 rintro e X ⟨rfl, hb1⟩
 refine hK.out _ _ (hS0.trans (hb1.mono hS0.size)) fun hS => ?_
 refine tkS (i := 19) (v := .tuple #[.string (rB id code nm ty), .int .i64 (encE ⟨id, true, code, nm, ty, [], [], []⟩)]) rfl hS ?_
 refine tkS (i := 20) (v := .string (rB id code nm ty)) rfl hS ?_
 refine tkS (i := 21) (v := .int .i64 (encE ⟨id, true, code, nm, ty, [], [], []⟩)) rfl hS ?_
 refine tkS (i := 22) (v := .string (rB id code nm ty)) rfl hS ?_
 refine tkS (i := 23) (v := .int .i64 (encE ⟨id, true, code, nm, ty, [], [], []⟩)) rfl hS ?_
 refine wpAnyH_done (by kernel_rfl) ?_ _
 go_wp2
 have hb01 : Below w.heap.size w X := hS0.trans (hb1.mono hS0.size)
 clear hS hS0 HT hb1
 obtain ⟨Y, hY⟩ : ∃ Y, X.drew = Y := ⟨_, rfl⟩
 have hbY : Below w.heap.size w Y := by rw [← hY]; exact hb01.drew
 have hyX : Y.heap[y]? = some (rresO vh en tr pa mx now rid asked (.slice ta tbs.length tc) vs (.slice ra R.length rc)) := (hbY.block y ly0).trans hy
 have htX : Y.heap[tb]? = some (rtaskO num id nm ty va vs' vm gs sends wi wa at_ wn wt wz) := (hbY.block tb lt0).trans ht
 have hvX : Y.ownsRow 0 66 2 (.slice ra R.length rc) R.length (pcells R) := own_same hr fun k e => hbY.block k (hr.lt k e).2
 have hwX : Y.ownsRow 0 217 1 (.slice ta tbs.length tc) tbs.length (tbs.map fun b => Value.pointer (some ⟨b, 0, none⟩)) := own_same htk fun k e => hbY.block k (htk.lt k e).2
 have sX : w.heap.size ≤ Y.heap.size := hbY.size
 have lyX : y < Y.heap.size := Nat.lt_of_lt_of_le ly0 sX
 have ltX : tb < Y.heap.size := Nat.lt_of_lt_of_le lt0 sX
 have hkX : Keeps (fun k => k = y ∨ (Value.slice ra R.length rc).ownBlock = some k) w Y := keeps_of_below hbY
 have x12 : Y.cell? ⟨y, 12, none⟩ = some (.slice ra R.length rc) := by rw [cell_blk hyX]; rfl
 have x0' : X.drew.cell? ⟨tb, 0, none⟩ = some (.int .i64 num) := by rw [hY, cell_blk htX]; rfl
 have x0 : Y.cell? ⟨tb, 0, none⟩ = some (.int .i64 num) := by rw [cell_blk htX]; rfl
 have z0 : ∀ o, (Y.alloc o).cell? ⟨tb, 0, none⟩ = some (.int .i64 num) := fun o => (((Below.refl _ Y).alloc (Nat.le_refl _) o).cell (p := ⟨tb, 0, none⟩) ltX).trans x0
 have z12 : ∀ o, (Y.alloc o).cell? ⟨y, 12, none⟩ = some (.slice ra R.length rc) := fun o => (((Below.refl _ Y).alloc (Nat.le_refl _) o).cell (p := ⟨y, 12, none⟩) lyX).trans x12
 have HEND : Hid (∀ o w6 g6 c6, w6.ownsRow 0 66 2 (.slice (some ⟨g6, 0, none⟩) (R.length + 1) c6) (R.length + 1) (pcells R ++ [.int .i64 num, .string (rB id code nm ty)]) → Lies (Y.alloc o) w6 (.slice ra R.length rc) g6 →
   w6.cell? ⟨y, 12, none⟩ = some (.slice ra R.length rc) ∧ w6.frozen? ⟨y, 12, none⟩ = false ∧ w6.cell? ⟨tb, 0, none⟩ = some (.int .i64 num) ∧
   (w6.setCell ⟨y, 12, none⟩ (.slice (some ⟨g6, 0, none⟩) (R.length + 1) c6)).cell? ⟨tb, 0, none⟩ = some (.int .i64 num) ∧
   ((w6.setCell ⟨y, 12, none⟩ (.slice (some ⟨g6, 0, none⟩) (R.length + 1) c6)).heap[y]? = some (rresO vh en tr pa mx now rid asked (.slice ta tbs.length tc) vs (.slice (some ⟨g6, 0, none⟩) (R.length + 1) c6)) ∧
    (w6.setCell ⟨y, 12, none⟩ (.slice (some ⟨g6, 0, none⟩) (R.length + 1) c6)).ownsRow 0 66 2 (.slice (some ⟨g6, 0, none⟩) (R.length + 1) c6) (R.length + 1) (pcells (R ++ [(num, rB id code nm ty)])) ∧
    (w6.setCell ⟨y, 12, none⟩ (.slice (some ⟨g6, 0, none⟩) (R.length + 1) c6)).ownsRow 0 217 1 (.slice ta tbs.length tc) tbs.length (tbs.map fun b => Value.pointer (some ⟨b, 0, none⟩)) ∧
    Keeps (fun k => k = y ∨ (Value.slice ra R.length rc).ownBlock = some k) w (w6.setCell ⟨y, 12, none⟩ (.slice (some ⟨g6, 0, none⟩) (R.length + 1) c6)) ∧
    ((Value.slice ra R.length rc).ownBlock = some g6 ∨ w.heap.size ≤ g6) ∧ ∀ b, b ∈ tb :: tbs → ∃ c, (w6.setCell ⟨y, 12, none⟩ (.slice (some ⟨g6, 0, none⟩) (R.length + 1) c6)).heap[b]? = some (.cells c 220 (0, 0)))) := by
  intro o w6 g6 c6 r6 L6
  have hA : ∀ (k : Nat) (c : Array Value) (e : TypeId), e ≠ 66 → Y.heap[k]? = some (.cells c e (0, 0)) → w6.heap[k]? = some (.cells c e (0, 0)) := fun k c e he hk => by
   have lk : k < Y.heap.size := (Array.getElem?_eq_some_iff.1 hk).1
   exact (L6.1.block k (by simp; omega) (own_far hvX hk he.symm)).trans ((Below.heap_alloc Y o k lk).trans hk)
  have e6 := hA y _ 163 (by decide) hyX
  have f6 := hA tb _ 220 (by decide) htX
  have hne : tb ≠ y := kind_ne htX hyX (by decide)
  have f7 : (w6.setCell ⟨y, 12, none⟩ (.slice (some ⟨g6, 0, none⟩) (R.length + 1) c6)).heap[tb]? = some (rtaskO num id nm ty va vs' vm gs sends wi wa at_ wn wt wz) := (Below.heap_setCell _ _ _ _ hne).trans f6
  refine ⟨by rw [cell_blk e6]; rfl, frozen_of_row _ y 12 _ 163 e6, by rw [cell_blk f6]; rfl, by rw [cell_blk f7]; rfl, ?_, ?_, ?_, ?_, ?_, ?_⟩
  ·have := heap_setCell_same w6 y 12 _ 163 (.slice (some ⟨g6, 0, none⟩) (R.length + 1) c6) e6
   simpa using this
  ·rw [pcells_snoc]
   refine own_same r6 fun k e => Below.heap_setCell _ _ _ _ ?_
   rintro rfl
   exact own_far r6 e6 (by decide) e.symm
  ·refine own_same hwX fun k e => ?_
   obtain ⟨cur, hc⟩ := own_blk hwX e
   rw [Below.heap_setCell _ _ _ _ (show k ≠ y from kind_ne hc hyX (by decide)), hA k _ 217 (by decide) hc, hc]
  ·exact ((hkX.alloc o).grown L6.1 (fun j e => .inl (.inr e))).set (.inl (.inl rfl)) 12 _
  ·rcases L6.2.1 with h | ⟨h, _⟩
   ·exact .inl h
   ·exact .inr (by simp at h; omega)
  ·intro b hb
   rcases List.mem_cons.1 hb with rfl | hb
   ·exact ⟨_, f7⟩
   ·obtain ⟨c, hc⟩ := hbs b hb
    have hcY := (hbY.block b (Array.getElem?_eq_some_iff.1 hc).1).trans hc
    exact ⟨c, (Below.heap_setCell _ _ _ _ (show b ≠ y from kind_ne hcY hyX (by decide))).trans (hA b _ 220 (by decide) hcY)⟩
 clear hbs hy ht hr htk hyX htX hwX hkX hbY hb01 sX
 refine wp_region_held_drew (S := fun w' => w'.cell? ⟨tb, 0, none⟩ = some (.int .i64 num)) (by kernel_rfl) x0' (fun hS => ?_)
 rw [hY] at hS ⊢
 clear x0'
 refine tkS (i := 0) (v := .pointer (some ⟨y, 0, none⟩)) rfl hS ?_
 refine tkS (i := 1) (v := .pointer (some ⟨y, 0, none⟩)) rfl hS ?_
 refine tkS (i := 2) (v := .pointer (some ⟨y, 0, none⟩)) rfl hS ?_
 refine tkS (i := 3) (v := .pointer (some ⟨y, 12, none⟩)) rfl hS ?_
 refine tkS (i := 5) (v := .pointer (some ⟨tb, 0, none⟩)) rfl hS ?_
 refine tkS (i := 6) (v := .pointer (some ⟨tb, 0, none⟩)) rfl hS ?_
 refine tkS (i := 7) (v := .pointer (some ⟨tb, 0, none⟩)) rfl hS ?_
 refine tkY (i := 8) (v := .int .i64 num) rfl (Or.inl ⟨by rfl, fun w' hw => by have hw1 : w'.cell? ⟨tb, 0, none⟩ = some (.int .i64 num) := hw; go_simp⟩) hS ?_
 refine tkS (i := 9) (v := .string (rB id code nm ty)) rfl hS ?_
 refine tkS (i := 10) (v := .agg #[.int .i64 num, .string (rB id code nm ty)]) rfl hS ?_
 refine wpAnyH_ready (rs := [4, 11]) (by kernel_rfl) (by simp) ?_
 refine AllReadyH.cons rfl (fun K hK => ?_) (AllReadyH.cons rfl (fun K hK => ?_) AllReadyH.nil)
 ·go_simp
  refine hK.out _ _ hS fun hS => ?_
  refine wpAnyH_ready (rs := [11]) (by kernel_rfl) (by simp) ?_
  refine AllReadyH.cons rfl (fun K hK => ?_) AllReadyH.nil
  go_simp
  refine hK.out _ _ (z0 _) fun hS => ?_
  refine wpAnyH_ready (rs := [12]) (by kernel_rfl) (by simp) ?_
  refine AllReadyH.cons rfl (fun K hK => ?_) AllReadyH.nil
  refine step_append_two _ rfl _ _ 63 rfl 0 66 i0 (.agg #[.int .i64 0, .string ByteArray.empty]) 2 24 hu63 hi0 hz0 hz1 hz2 rfl (.slice ra R.length rc) _ _ rfl (own_same hvX (fun k e => Below.heap_alloc Y _ k (hvX.lt k e).2)) ⟨Y.heap.size, 0, none⟩ 1 1 [.int .i64 num, .string (rB id code nm ty)] rfl rfl (World.news_of_block (Go.heap_alloc_new _ _)) (by intro u hu; simp at hu; rcases hu with rfl | rfl <;> rfl) (by decide) (room24 _ hR).1 (room24 _ hR).2 (Nat.zero_le _) ?_
  intro g6 c6 w6 r6 o6 L6
  have HE := HEND.out _ w6 g6 c6 r6 L6
  clear r6 o6 L6
  obtain ⟨e1, e2, e3, e4, e6⟩ := HE
  refine hK.out _ _ e3 fun hS => ?_
  refine tkS (i := 13) (v := .pointer (some ⟨y, 0, none⟩)) rfl hS ?_
  refine tkS (i := 14) (v := .pointer (some ⟨y, 12, none⟩)) rfl hS ?_
  refine wpAnyH_ready (rs := [15]) (by kernel_rfl) (by simp) ?_
  refine AllReadyH.cons rfl (fun K hK => ?_) AllReadyH.nil
  go_simp
  refine hK.out _ _ e4 fun hS => ?_
  refine wpAnyH_done (by kernel_rfl) ?_ _
  clear e1 e2 e3 e4 hS
  obtain ⟨W3, hW3⟩ : ∃ W3, w6.setCell ⟨y, 12, none⟩ (.slice (some ⟨g6, 0, none⟩) (R.length + 1) c6) = W3 := ⟨_, rfl⟩
  rw [hW3] at e6 ⊢
  clear hW3 x12 z12 z0 hvX HEND
  obtain ⟨p1, p2, p3, p4, p5, p6⟩ := e6
  have HP6 := hid p6
  clear p6
  have y10 : W3.cell? ⟨y, 10, none⟩ = some (.slice ta tbs.length tc) := by rw [cell_blk p1]; rfl
  have ly : y < W3.heap.size := (Array.getElem?_eq_some_iff.1 p1).1
  have HC : Hid (∀ k b, tbs[k]? = some b → ∃ gb, ta = some ⟨gb, 0, none⟩ ∧ gb < W3.heap.size ∧ W3.cell? ⟨gb, k, none⟩ = some (.pointer (some ⟨b, 0, none⟩))) := rtasks_at p3
  have HEND2 := rreply_end (tb := tb) tbs p1 p2 p4 p5
  clear p1 p2 p3 p4 p5
  go_wp2
  go_loopw [10, 11] (fun v i wr => ∃ k : Nat, k ≤ tbs.length ∧ i = .int .i64 k ∧ wr.ownsRow W3.heap.size 217 1 v (others tb (tbs.take k)).length ((others tb (tbs.take k)).map fun b => Value.pointer (some ⟨b, 0, none⟩)) ∧ Below W3.heap.size W3 wr) (fun _ i _ => tbs.length - (intOf i).toNat)
  case atStart => exact ⟨0, Nat.zero_le _, rfl, World.ownsRow_nil _ _ _ _, Below.refl _ _⟩
  case round =>
   obtain ⟨k, hk, rfl, hown, hb⟩ := hrel
   have yk : wr.cell? ⟨y, 10, none⟩ = some (.slice ta tbs.length tc) := (hb.cell (p := ⟨y, 10, none⟩) ly).trans y10
   by_cases hlt : k < tbs.length
   ·obtain ⟨b, hb0⟩ : ∃ b, tbs[k]? = some b := ⟨tbs[k], List.getElem?_eq_getElem hlt⟩
    obtain ⟨gb, rfl, lgb, hcb0⟩ := HC.out k b hb0
    have hcb : wr.cell? ⟨gb, k, none⟩ = some (.pointer (some ⟨b, 0, none⟩)) := (hb.cell (p := ⟨gb, k, none⟩) lgb).trans hcb0
    have HB0 := hid hb0
    clear hcb0 hb0
    by_cases hbt : b = tb
    ·subst hbt
     have hst := others_skip (tb := b) HB0.out rfl
     have hq := task_same b wr
     go_wp2
     go_roundw
     case rel => exact ⟨k + 1, hlt, by go_num, by rw [hst]; exact hown, hb⟩
     case measure => simp [intOf]; omega
    ·have hst := hid (others_step HB0.out hbt)
     have hq : (binOp .neq 217 (.pointer (some ⟨b, 0, none⟩)) (.pointer (some ⟨tb, 0, none⟩))).run Tryz.prog wr = .ok (.bool true) wr := by
      obtain ⟨c1, h1⟩ := HP6.out b (List.mem_cons_of_mem _ (List.mem_of_getElem? HB0.out))
      obtain ⟨c2, h2⟩ := HP6.out tb List.mem_cons_self
      exact task_other hbt ((hb.block b (Array.getElem?_eq_some_iff.1 h1).1).trans h1) ((hb.block tb (Array.getElem?_eq_some_iff.1 h2).1).trans h2)
     have hln : (others tb (tbs.take k)).length ≤ 8 := Nat.le_trans (List.length_filter_le _ _) (by rw [List.length_take]; omega)
     go_wp2_with (first
      | (at_builtin; refine wpList_append_own _ rfl _ _ 161 rfl W3.heap.size 217 j0 (.pointer none) 1 8 hu161 hj0 hy0 hy1 hy2 rfl (by decide) _ _ _ rfl (hown.alloc _) ⟨wr.heap.size, 0, none⟩ 1 1 [.pointer (some ⟨b, 0, none⟩)] rfl rfl ?c1 ?c2 ?c3 ?c4 ?c5 ?_))
     case c1 =>
      intro j u hj
      match j, hj with
      | 0, hj => simp at hj; subst hj; simp [Addr.add]
     case c2 => intro u hu; simp at hu; subst hu; rfl
     case c3 => unfold maxLen; omega
     case c4 => omega
     case c5 => have := hb.size; simp; omega
     intro v' w2 hown' hgrow _
     have R2 := rtasks_step hst.out hown hb hown' hgrow
     clear hown' hgrow hown
     go_wp2
     go_roundw
     case rel => exact ⟨k + 1, hlt, by go_num, R2.1, R2.2⟩
     case measure => simp [intOf]; omega
   ·obtain rfl : k = tbs.length := by omega
    rw [List.take_length] at hown
    obtain ⟨a', c', rfl⟩ := own_val' hown
    have hE := hid (HEND2 _ _ wr hown hb)
    have fy : wr.frozen? ⟨y, 10, none⟩ = false := (HEND2 _ _ wr hown hb).2
    clear hown HEND2 HC
    go_wp2
    go_end0
    exact ⟨rfl, _, g6, c6, hE.out.1⟩
 ·go_simp
  refine hK.out _ _ (z0 _) fun hS => ?_
  refine wpAnyH_ready (rs := [4]) (by kernel_rfl) (by simp) ?_
  refine AllReadyH.cons rfl (fun K hK => ?_) AllReadyH.nil
  go_simp
  refine hK.out _ _ hS fun hS => ?_
  refine wpAnyH_ready (rs := [12]) (by kernel_rfl) (by simp) ?_
  refine AllReadyH.cons rfl (fun K hK => ?_) AllReadyH.nil
  refine step_append_two _ rfl _ _ 63 rfl 0 66 i0 (.agg #[.int .i64 0, .string ByteArray.empty]) 2 24 hu63 hi0 hz0 hz1 hz2 rfl (.slice ra R.length rc) _ _ rfl (own_same hvX (fun k e => Below.heap_alloc Y _ k (hvX.lt k e).2)) ⟨Y.heap.size, 0, none⟩ 1 1 [.int .i64 num, .string (rB id code nm ty)] rfl rfl (World.news_of_block (Go.heap_alloc_new _ _)) (by intro u hu; simp at hu; rcases hu with rfl | rfl <;> rfl) (by decide) (room24 _ hR).1 (room24 _ hR).2 (Nat.zero_le _) ?_
  intro g6 c6 w6 r6 o6 L6
  have HE := HEND.out _ w6 g6 c6 r6 L6
  clear r6 o6 L6
  obtain ⟨e1, e2, e3, e4, e6⟩ := HE
  refine hK.out _ _ e3 fun hS => ?_
  refine tkS (i := 13) (v := .pointer (some ⟨y, 0, none⟩)) rfl hS ?_
  refine tkS (i := 14) (v := .pointer (some ⟨y, 12, none⟩)) rfl hS ?_
  refine wpAnyH_ready (rs := [15]) (by kernel_rfl) (by simp) ?_
  refine AllReadyH.cons rfl (fun K hK => ?_) AllReadyH.nil
  go_simp
  refine hK.out _ _ e4 fun hS => ?_
  refine wpAnyH_done (by kernel_rfl) ?_ _
  clear e1 e2 e3 e4 hS
  obtain ⟨W3, hW3⟩ : ∃ W3, w6.setCell ⟨y, 12, none⟩ (.slice (some ⟨g6, 0, none⟩) (R.length + 1) c6) = W3 := ⟨_, rfl⟩
  rw [hW3] at e6 ⊢
  clear hW3 x12 z12 z0 hvX HEND
  obtain ⟨p1, p2, p3, p4, p5, p6⟩ := e6
  have HP6 := hid p6
  clear p6
  have y10 : W3.cell? ⟨y, 10, none⟩ = some (.slice ta tbs.length tc) := by rw [cell_blk p1]; rfl
  have ly : y < W3.heap.size := (Array.getElem?_eq_some_iff.1 p1).1
  have HC : Hid (∀ k b, tbs[k]? = some b → ∃ gb, ta = some ⟨gb, 0, none⟩ ∧ gb < W3.heap.size ∧ W3.cell? ⟨gb, k, none⟩ = some (.pointer (some ⟨b, 0, none⟩))) := rtasks_at p3
  have HEND2 := rreply_end (tb := tb) tbs p1 p2 p4 p5
  clear p1 p2 p3 p4 p5
  go_wp2
  go_loopw [10, 11] (fun v i wr => ∃ k : Nat, k ≤ tbs.length ∧ i = .int .i64 k ∧ wr.ownsRow W3.heap.size 217 1 v (others tb (tbs.take k)).length ((others tb (tbs.take k)).map fun b => Value.pointer (some ⟨b, 0, none⟩)) ∧ Below W3.heap.size W3 wr) (fun _ i _ => tbs.length - (intOf i).toNat)
  case atStart => exact ⟨0, Nat.zero_le _, rfl, World.ownsRow_nil _ _ _ _, Below.refl _ _⟩
  case round =>
   obtain ⟨k, hk, rfl, hown, hb⟩ := hrel
   have yk : wr.cell? ⟨y, 10, none⟩ = some (.slice ta tbs.length tc) := (hb.cell (p := ⟨y, 10, none⟩) ly).trans y10
   by_cases hlt : k < tbs.length
   ·obtain ⟨b, hb0⟩ : ∃ b, tbs[k]? = some b := ⟨tbs[k], List.getElem?_eq_getElem hlt⟩
    obtain ⟨gb, rfl, lgb, hcb0⟩ := HC.out k b hb0
    have hcb : wr.cell? ⟨gb, k, none⟩ = some (.pointer (some ⟨b, 0, none⟩)) := (hb.cell (p := ⟨gb, k, none⟩) lgb).trans hcb0
    have HB0 := hid hb0
    clear hcb0 hb0
    by_cases hbt : b = tb
    ·subst hbt
     have hst := others_skip (tb := b) HB0.out rfl
     have hq := task_same b wr
     go_wp2
     go_roundw
     case rel => exact ⟨k + 1, hlt, by go_num, by rw [hst]; exact hown, hb⟩
     case measure => simp [intOf]; omega
    ·have hst := hid (others_step HB0.out hbt)
     have hq : (binOp .neq 217 (.pointer (some ⟨b, 0, none⟩)) (.pointer (some ⟨tb, 0, none⟩))).run Tryz.prog wr = .ok (.bool true) wr := by
      obtain ⟨c1, h1⟩ := HP6.out b (List.mem_cons_of_mem _ (List.mem_of_getElem? HB0.out))
      obtain ⟨c2, h2⟩ := HP6.out tb List.mem_cons_self
      exact task_other hbt ((hb.block b (Array.getElem?_eq_some_iff.1 h1).1).trans h1) ((hb.block tb (Array.getElem?_eq_some_iff.1 h2).1).trans h2)
     have hln : (others tb (tbs.take k)).length ≤ 8 := Nat.le_trans (List.length_filter_le _ _) (by rw [List.length_take]; omega)
     go_wp2_with (first
      | (at_builtin; refine wpList_append_own _ rfl _ _ 161 rfl W3.heap.size 217 j0 (.pointer none) 1 8 hu161 hj0 hy0 hy1 hy2 rfl (by decide) _ _ _ rfl (hown.alloc _) ⟨wr.heap.size, 0, none⟩ 1 1 [.pointer (some ⟨b, 0, none⟩)] rfl rfl ?c1 ?c2 ?c3 ?c4 ?c5 ?_))
     case c1 =>
      intro j u hj
      match j, hj with
      | 0, hj => simp at hj; subst hj; simp [Addr.add]
     case c2 => intro u hu; simp at hu; subst hu; rfl
     case c3 => unfold maxLen; omega
     case c4 => omega
     case c5 => have := hb.size; simp; omega
     intro v' w2 hown' hgrow _
     have R2 := rtasks_step hst.out hown hb hown' hgrow
     clear hown' hgrow hown
     go_wp2
     go_roundw
     case rel => exact ⟨k + 1, hlt, by go_num, R2.1, R2.2⟩
     case measure => simp [intOf]; omega
   ·obtain rfl : k = tbs.length := by omega
    rw [List.take_length] at hown
    obtain ⟨a', c', rfl⟩ := own_val' hown
    have hE := hid (HEND2 _ _ wr hown hb)
    have fy : wr.frozen? ⟨y, 10, none⟩ = false := (HEND2 _ _ wr hown hb).2
    clear hown HEND2 HC
    go_wp2
    go_end0
    exact ⟨rfl, _, g6, c6, hE.out.1⟩
end Go.Proofs.YtefdokkadckbbaaGreatDoor
