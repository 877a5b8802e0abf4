/- T7 -/
import Derived.Test.YtefdokkadckbbaaGreatDoorZ21
namespace Go.Proofs.YtefdokkadckbbaaGreatDoor
open Go.RowKit Go.Shelf Go.MapKept Go.Maps
set_option maxRecDepth 100000
theorem cells5 {W : World} {b : Nat} {t : TypeId} {v0 v1 v2 v3 v4 : Value} (h : W.heap[b]? = some (.cells #[v0, v1, v2, v3, v4] t (0, 0))) :
  W.cell? ⟨b, 0, none⟩ = some v0 ∧ W.cell? ⟨b, 1, none⟩ = some v1 ∧ W.cell? ⟨b, 2, none⟩ = some v2 ∧ W.cell? ⟨b, 3, none⟩ = some v3 ∧ W.cell? ⟨b, 4, none⟩ = some v4 := by
 refine ⟨?_, ?_, ?_, ?_, ?_⟩ <;> (rw [cell_blk h]; rfl)
theorem allocs2 (w : World) (o0 o1 : Obj) : ∃ X, (w.alloc o0).alloc o1 = X ∧ X.heap[w.heap.size]? = some o0 ∧ X.heap[w.heap.size + 1]? = some o1 ∧ X.heap.size = w.heap.size + 2 ∧ Below w.heap.size w X := by
 refine ⟨_, rfl, ?_, ?_, by simp, ((Below.refl _ _).alloc (Nat.le_refl _) _).alloc (by simp) _⟩
 ·rw [Below.heap_alloc _ _ _ (by simp)]
  exact World.alloc_heap_new _ _
 ·have := World.alloc_heap_new (w.alloc o0) o1
  rwa [World.size_alloc] at this
theorem call_start (h : Value) (en tr pa mx now nid : Int) (mp : Nat) (w : World) : ∃ X, (w.alloc (.cells #[h, .int .i64 en, .int .i64 tr, .int .i64 pa, .int .i64 mx, .pointer (some ⟨mp, 0, none⟩), .int .i64 now, .int .i64 nid] 122)).alloc (.cells #[.int .i64 0, .slice none 0 0] 287) = X ∧
  X.heap[w.heap.size]? = some (.cells #[h, .int .i64 en, .int .i64 tr, .int .i64 pa, .int .i64 mx, .pointer (some ⟨mp, 0, none⟩), .int .i64 now, .int .i64 nid] 122 (0, 0)) ∧ X.heap[w.heap.size + 1]? = some (.cells #[.int .i64 0, .slice none 0 0] 287 (0, 0)) ∧ X.heap.size = w.heap.size + 2 ∧ Below w.heap.size w X := allocs2 w _ _
abbrev endV (c : Int) : Value := .agg #[.int .i64 c, .slice none 0 0]
def NoCut (X : World) (s : Value) (wc : World) : Prop := s = .bool false ∧ Below X.heap.size X wc
set_option maxHeartbeats 4000000 in
theorem nothing_none (g mp : Nat) (h : Value) (en tr pa mx now nid ty : Int) (nm : ByteArray) (w : World) (hM : Mem0 w mp) (hg : g < w.heap.size) (hn : w.cell? ⟨g, 1, none⟩ = some (.string nm)) (hk : w.cell? ⟨g, 2, none⟩ = some (.int .i64 ty)) (hnm : nm.size ≤ maxLen) (hty : (Lit.int .i64 ty).wf = true) :
  Calls Tryz.prog 244 #[.pointer (some ⟨g, 0, none⟩), wV h en tr pa mx mp now nid] w fun e w' => e = .returned (.tuple #[endV 0, .bool false]) ∧ Below w.heap.size w w' := by
 obtain ⟨X, hX, x0, x1, x2, x3⟩ := call_start h en tr pa mx now nid mp w
 have hF0 : ∀ w', Below X.heap.size X w' → (w'.cell? ⟨w.heap.size, 0, none⟩ = some h ∧ w'.cell? ⟨w.heap.size, 1, none⟩ = some (.int .i64 en) ∧ w'.cell? ⟨w.heap.size, 2, none⟩ = some (.int .i64 tr) ∧ w'.cell? ⟨w.heap.size, 3, none⟩ = some (.int .i64 pa) ∧ w'.cell? ⟨w.heap.size, 4, none⟩ = some (.int .i64 mx) ∧ w'.cell? ⟨w.heap.size, 5, none⟩ = some (.pointer (some ⟨mp, 0, none⟩)) ∧ w'.cell? ⟨w.heap.size, 6, none⟩ = some (.int .i64 now) ∧ w'.cell? ⟨w.heap.size, 7, none⟩ = some (.int .i64 nid)) ∧ w'.cell? ⟨g, 1, none⟩ = some (.string nm) ∧ w'.cell? ⟨g, 2, none⟩ = some (.int .i64 ty) := fun w' hb' =>
  ⟨cells8 ((hb'.block _ (by omega)).trans x0), (hb'.cell (p := ⟨g, 1, none⟩) (show g < X.heap.size by omega)).trans ((x3.cell (p := ⟨g, 1, none⟩) hg).trans hn), (hb'.cell (p := ⟨g, 2, none⟩) (show g < X.heap.size by omega)).trans ((x3.cell (p := ⟨g, 2, none⟩) hg).trans hk)⟩
 have HF := hF0
 have HM : Mem0 X mp := hM.below x3
 have hz0 : w.heap.size + 1 < X.heap.size := by omega
 clear x2
 go_enter Tryz.func244, Tryz.ntmps244
 go_wp2_with fail
 go_cut [7] (fun s wc => NoCut X s wc)
 case first =>
  refine wp_region_held_drew (S := fun w' => Below X.heap.size X w') (by kernel_rfl) (Below.refl _ _).drew (fun hS => ?_)
  refine tkS (i := 0) (v := .pointer (some ⟨w.heap.size, 5, none⟩)) rfl hS ?_
  refine tkY (i := 1) (v := .pointer (some ⟨mp, 0, none⟩)) rfl (Or.inl ⟨by rfl, fun w' hw => by obtain ⟨⟨h0, h1, h2, h3, h4, h5, h6, h7⟩, g1, g2⟩ := HF w' hw; go_simp⟩) hS ?_
  refine tkS (i := 2) (v := .pointer (some ⟨w.heap.size, 6, none⟩)) rfl hS ?_
  refine tkY (i := 3) (v := .int .i64 now) rfl (Or.inl ⟨by rfl, fun w' hw => by obtain ⟨⟨h0, h1, h2, h3, h4, h5, h6, h7⟩, g1, g2⟩ := HF w' hw; go_simp⟩) hS ?_
  refine tkS (i := 4) (v := .pointer (some ⟨g, 0, none⟩)) rfl hS ?_
  refine tkS (i := 5) (v := .pointer (some ⟨g, 0, none⟩)) rfl hS ?_
  refine tkS (i := 6) (v := .pointer (some ⟨g, 1, none⟩)) rfl hS ?_
  refine tkY (i := 7) (v := .string nm) rfl (Or.inl ⟨by rfl, fun w' hw => by obtain ⟨⟨h0, h1, h2, h3, h4, h5, h6, h7⟩, g1, g2⟩ := HF w' hw; go_simp⟩) hS ?_
  refine wpAnyH_ready (rs := [8, 12]) (by kernel_rfl) (by simp) ?_
  refine AllReadyH.cons rfl (fun K hK => ?_) (AllReadyH.cons rfl (fun K hK => ?_) AllReadyH.nil)
  ·go_simp
   refine (Live_none mp now 0 nm _ (HM.below (Below.refl _ _).drew) hnm (by decide)).mono ?_
   rintro e w5 ⟨rfl, hb5⟩
   have hB5 : Below X.heap.size X w5 := Below.trans (Below.refl _ _).drew hb5
   refine hK.out _ _ hB5 fun hS => ?_
   refine tkS (i := 9) (v := .tuple #[zEnt, .bool false]) rfl hS ?_
   refine tkS (i := 10) (v := zEnt) rfl hS ?_
   refine tkS (i := 11) (v := .bool false) rfl hS ?_
   refine wpAnyH_ready (rs := [12]) (by kernel_rfl) (by simp) ?_
   refine AllReadyH.cons rfl (fun K hK => ?_) AllReadyH.nil
   go_simp
   refine hK.out _ _ (hB5.alloc hB5.size _) fun hS => ?_
   refine wpAnyH_ready (rs := [13]) (by kernel_rfl) (by simp) ?_
   refine AllReadyH.cons rfl (fun K hK => ?_) AllReadyH.nil
   go_simp
   refine hK.out _ _ (hB5.alloc hB5.size _) fun hS => ?_
   refine tkS (i := 14) (v := .bool false) rfl hS ?_
   refine wpAnyH_done (by kernel_rfl) ?_ _
   go_wp2_with fail
   go_meet
   exact ⟨rfl, hB5.alloc hB5.size _⟩
  ·go_simp
   have hA : Below X.heap.size X (X.drew.alloc (.cells #[.string ⟨#[]⟩, .int .i64 0, .int .i64 0, .int .i64 0, .slice none 0 0] 167)) := (Below.refl _ _).drew.alloc (Nat.le_refl _) _
   refine hK.out _ _ hA fun hS => ?_
   refine wpAnyH_ready (rs := [8]) (by kernel_rfl) (by simp) ?_
   refine AllReadyH.cons rfl (fun K hK => ?_) AllReadyH.nil
   go_simp
   refine (Live_none mp now 0 nm _ (HM.below hA) hnm (by decide)).mono ?_
   rintro e w5 ⟨rfl, hb5⟩
   have hB5 : Below X.heap.size X w5 := hA.trans (hb5.mono hA.size)
   have rb : w5.heap[X.heap.size]? = some (.cells #[.string ⟨#[]⟩, .int .i64 0, .int .i64 0, .int .i64 0, .slice none 0 0] 167 (0, 0)) := (hb5.block _ (show X.heap.size < (X.drew.alloc _).heap.size by rw [World.size_alloc]; exact Nat.lt_succ_self _)).trans (World.alloc_heap_new X.drew _)
   obtain ⟨r0, r1, r2, r3, r4⟩ := cells5 rb
   have rf : ∀ k, w5.frozen? ⟨X.heap.size, k, none⟩ = false := fun k => frozen_of_row w5 _ k _ 167 rb
   refine hK.out _ _ hB5 fun hS => ?_
   refine tkS (i := 9) (v := .tuple #[zEnt, .bool false]) rfl hS ?_
   refine tkS (i := 10) (v := zEnt) rfl hS ?_
   refine tkS (i := 11) (v := .bool false) rfl hS ?_
   refine wpAnyH_ready (rs := [13]) (by kernel_rfl) (by simp) ?_
   refine AllReadyH.cons rfl (fun K hK => ?_) AllReadyH.nil
   go_simp
   have hB6 := ((((hB5.set (Nat.le_refl _) 0 (.string ⟨#[]⟩)).set (Nat.le_refl _) 1 (.int .i64 0)).set (Nat.le_refl _) 2 (.int .i64 0)).set (Nat.le_refl _) 3 (.int .i64 0)).set (Nat.le_refl _) 4 (.slice none 0 0)
   refine hK.out _ _ hB6 fun hS => ?_
   refine tkS (i := 14) (v := .bool false) rfl hS ?_
   refine wpAnyH_done (by kernel_rfl) ?_ _
   go_wp2_with fail
   go_meet
   exact ⟨rfl, hB6⟩
 case rest =>
  obtain ⟨rfl, hb2⟩ := hcut
  obtain ⟨X2, rfl⟩ : ∃ X2, wc = X2 := ⟨_, rfl⟩
  have HF : ∀ w', Below wc.heap.size wc w' → _ := fun w' hb' => hF0 w' (hb2.trans (hb'.mono hb2.size))
  have HM : Mem0 wc mp := HM.below hb2
  go_wp2_with fail
  go_cut [9] (fun s wc2 => NoCut wc s wc2)
  case first =>
   refine wp_region_held_drew (S := fun w' => Below wc.heap.size wc w') (by kernel_rfl) (Below.refl _ _).drew (fun hS => ?_)
   refine tkY (i := 0) (v := wV h en tr pa mx mp now nid) rfl (Or.inl ⟨by rfl, fun w' hw => by obtain ⟨⟨h0, h1, h2, h3, h4, h5, h6, h7⟩, g1, g2⟩ := HF w' hw; go_simp⟩) hS ?_
   refine tkS (i := 1) (v := .pointer (some ⟨g, 0, none⟩)) rfl hS ?_
   refine tkS (i := 2) (v := .pointer (some ⟨g, 0, none⟩)) rfl hS ?_
   refine tkS (i := 3) (v := .pointer (some ⟨g, 1, none⟩)) rfl hS ?_
   refine tkY (i := 4) (v := .string nm) rfl (Or.inl ⟨by rfl, fun w' hw => by obtain ⟨⟨h0, h1, h2, h3, h4, h5, h6, h7⟩, g1, g2⟩ := HF w' hw; go_simp⟩) hS ?_
   refine tkS (i := 5) (v := .pointer (some ⟨g, 0, none⟩)) rfl hS ?_
   refine tkS (i := 6) (v := .pointer (some ⟨g, 0, none⟩)) rfl hS ?_
   refine tkS (i := 7) (v := .pointer (some ⟨g, 2, none⟩)) rfl hS ?_
   refine tkY (i := 8) (v := .int .i64 ty) rfl (Or.inl ⟨by rfl, fun w' hw => by obtain ⟨⟨h0, h1, h2, h3, h4, h5, h6, h7⟩, g1, g2⟩ := HF w' hw; go_simp⟩) hS ?_
   refine wpAnyH_ready (rs := [9, 13]) (by kernel_rfl) (by simp) ?_
   refine AllReadyH.cons rfl (fun K hK => ?_) (AllReadyH.cons rfl (fun K hK => ?_) AllReadyH.nil)
   ·go_simp
    refine (answer_none h en tr pa mx now nid ty mp nm _ (HM.below (Below.refl _ _).drew) hnm hty).mono ?_
    rintro e w5 ⟨rfl, hb5⟩
    have hB5 : Below wc.heap.size wc w5 := Below.trans (Below.refl _ _).drew hb5
    refine hK.out _ _ hB5 fun hS => ?_
    refine tkS (i := 10) (v := .tuple #[zEnt, .bool false]) rfl hS ?_
    refine tkS (i := 11) (v := zEnt) rfl hS ?_
    refine tkS (i := 12) (v := .bool false) rfl hS ?_
    refine wpAnyH_ready (rs := [13]) (by kernel_rfl) (by simp) ?_
    refine AllReadyH.cons rfl (fun K hK => ?_) AllReadyH.nil
    go_simp
    refine hK.out _ _ (hB5.alloc hB5.size _) fun hS => ?_
    refine wpAnyH_ready (rs := [14]) (by kernel_rfl) (by simp) ?_
    refine AllReadyH.cons rfl (fun K hK => ?_) AllReadyH.nil
    go_simp
    refine hK.out _ _ (hB5.alloc hB5.size _) fun hS => ?_
    refine tkS (i := 15) (v := .bool false) rfl hS ?_
    refine wpAnyH_done (by kernel_rfl) ?_ _
    go_wp2_with fail
    go_meet
    exact ⟨rfl, hB5.alloc hB5.size _⟩
   ·go_simp
    have hA : Below wc.heap.size wc (wc.drew.alloc (.cells #[.string ⟨#[]⟩, .int .i64 0, .int .i64 0, .int .i64 0, .slice none 0 0] 167)) := (Below.refl _ _).drew.alloc (Nat.le_refl _) _
    refine hK.out _ _ hA fun hS => ?_
    refine wpAnyH_ready (rs := [9]) (by kernel_rfl) (by simp) ?_
    refine AllReadyH.cons rfl (fun K hK => ?_) AllReadyH.nil
    go_simp
    refine (answer_none h en tr pa mx now nid ty mp nm _ (HM.below hA) hnm hty).mono ?_
    rintro e w5 ⟨rfl, hb5⟩
    have hB5 : Below wc.heap.size wc w5 := hA.trans (hb5.mono hA.size)
    have rb : w5.heap[wc.heap.size]? = some (.cells #[.string ⟨#[]⟩, .int .i64 0, .int .i64 0, .int .i64 0, .slice none 0 0] 167 (0, 0)) := (hb5.block _ (show wc.heap.size < (wc.drew.alloc _).heap.size by rw [World.size_alloc]; exact Nat.lt_succ_self _)).trans (World.alloc_heap_new wc.drew _)
    obtain ⟨r0, r1, r2, r3, r4⟩ := cells5 rb
    have rf : ∀ k, w5.frozen? ⟨wc.heap.size, k, none⟩ = false := fun k => frozen_of_row w5 _ k _ 167 rb
    refine hK.out _ _ hB5 fun hS => ?_
    refine tkS (i := 10) (v := .tuple #[zEnt, .bool false]) rfl hS ?_
    refine tkS (i := 11) (v := zEnt) rfl hS ?_
    refine tkS (i := 12) (v := .bool false) rfl hS ?_
    refine wpAnyH_ready (rs := [14]) (by kernel_rfl) (by simp) ?_
    refine AllReadyH.cons rfl (fun K hK => ?_) AllReadyH.nil
    go_simp
    have hB6 := ((((hB5.set (Nat.le_refl _) 0 (.string ⟨#[]⟩)).set (Nat.le_refl _) 1 (.int .i64 0)).set (Nat.le_refl _) 2 (.int .i64 0)).set (Nat.le_refl _) 3 (.int .i64 0)).set (Nat.le_refl _) 4 (.slice none 0 0)
    refine hK.out _ _ hB6 fun hS => ?_
    refine tkS (i := 15) (v := .bool false) rfl hS ?_
    refine wpAnyH_done (by kernel_rfl) ?_ _
    go_wp2_with fail
    go_meet
    exact ⟨rfl, hB6⟩
  case rest =>
   obtain ⟨rfl, hb3⟩ := hcut
   have hB3 := hb2.trans (hb3.mono hb2.size)
   have r4 := (hB3.block (w.heap.size + 1) hz0).trans x1
   have e0 : wc.cell? ⟨w.heap.size + 1, 0, none⟩ = some (.int .i64 0) := by rw [cell_blk r4]; rfl
   have e1 : wc.cell? ⟨w.heap.size + 1, 1, none⟩ = some (.slice none 0 0) := by rw [cell_blk r4]; rfl
   have ef : ∀ k, wc.frozen? ⟨w.heap.size + 1, k, none⟩ = false := fun k => frozen_of_row wc _ k _ 287 r4
   clear HF hF0
   go_wp2_with fail
   refine bodyPost_ret (v := .tuple #[endV 0, .bool false]) (by simp [results, Tryz.results244, go_sem, e0, e1]) rfl ⟨rfl, ?_⟩
   have hB : Below w.heap.size w wc := x3.trans (hB3.mono (by omega))
   exact (hB.set (Nat.le_succ _) 0 _).set (Nat.le_succ _) 1 _
end Go.Proofs.YtefdokkadckbbaaGreatDoor
