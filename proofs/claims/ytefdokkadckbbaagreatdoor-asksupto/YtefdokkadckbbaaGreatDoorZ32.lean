/- T8 Ta Tw -/
import Derived.Test.YtefdokkadckbbaaGreatDoorZ30
import Derived.Test.YtefdokkadckbbaaGreatDoorZ31
import Derived.Test.YtefdokkadckbbaaGreatDoorZ22
import Derived.RegionIn
import Derived.BigRegionIn
import Derived.Stop.RegionWithIn
section
namespace Go.Proofs.YtefdokkadckbbaaGreatDoor
open Go.RowKit Go.Shelf Go.MapKept Go.Maps
set_option maxRecDepth 100000
set_option maxHeartbeats 4000000 in
theorem recall_none (g mp : Nat) (h : Value) (en tr pa mx now nid ty : Int) (nm : ByteArray) (w : World) (hM : Mem0 w mp) (hg : g < w.heap.size) (hn : w.cell? ⟨g, 1, none⟩ = some (.string nm)) (hk : w.cell? ⟨g, 2, none⟩ = some (.int .i64 ty)) (hnm : nm.size ≤ maxLen) (hty : (Lit.int .i64 ty).wf = true) :
  Calls Tryz.prog 182 #[.pointer (some ⟨g, 0, none⟩), wV h en tr pa mx mp now nid] w fun e w' => e = .returned (.tuple #[endV 0, .bool false]) ∧ Below w.heap.size w w' := by
 obtain ⟨X, hX, x0, x1, x2, x3⟩ := call_start h en tr pa mx now nid mp w
 have hF0 : ∀ w', Below X.heap.size X w' → (w'.cell? ⟨w.heap.size, 0, none⟩ = some h ∧ w'.cell? ⟨w.heap.size, 1, none⟩ = some (.int .i64 en) ∧ w'.cell? ⟨w.heap.size, 2, none⟩ = some (.int .i64 tr) ∧ w'.cell? ⟨w.heap.size, 3, none⟩ = some (.int .i64 pa) ∧ w'.cell? ⟨w.heap.size, 4, none⟩ = some (.int .i64 mx) ∧ w'.cell? ⟨w.heap.size, 5, none⟩ = some (.pointer (some ⟨mp, 0, none⟩)) ∧ w'.cell? ⟨w.heap.size, 6, none⟩ = some (.int .i64 now) ∧ w'.cell? ⟨w.heap.size, 7, none⟩ = some (.int .i64 nid)) ∧ w'.cell? ⟨g, 1, none⟩ = some (.string nm) ∧ w'.cell? ⟨g, 2, none⟩ = some (.int .i64 ty) := fun w' hb' =>
  ⟨cells8 ((hb'.block _ (by omega)).trans x0), (hb'.cell (p := ⟨g, 1, none⟩) (show g < X.heap.size by omega)).trans ((x3.cell (p := ⟨g, 1, none⟩) hg).trans hn), (hb'.cell (p := ⟨g, 2, none⟩) (show g < X.heap.size by omega)).trans ((x3.cell (p := ⟨g, 2, none⟩) hg).trans hk)⟩
 have HF := hF0
 have HM : Mem0 X mp := hM.below x3
 have hz0 : w.heap.size + 1 < X.heap.size := by omega
 have hgX : g < X.heap.size := by omega
 clear x2
 go_enter Tryz.func182, Tryz.ntmps182
 go_wp2_with fail
 refine wp_loop_rounds 1 ?_
 rw [rounds_succ]
 go_wp2_with fail
 go_cut [7] (fun s wc => NoCut X s wc)
 case first =>
  refine wp_region_held_drew (S := fun w' => Below X.heap.size X w') (by kernel_rfl) (Below.refl _ _).drew (fun hS => ?_)
  refine tkY (i := 0) (v := wV h en tr pa mx mp now nid) rfl (Or.inl ⟨by rfl, fun w' hw => by obtain ⟨⟨h0, h1, h2, h3, h4, h5, h6, h7⟩, g1, g2⟩ := HF w' hw; go_simp⟩) hS ?_
  refine tkS (i := 1) (v := .pointer (some ⟨g, 0, none⟩)) rfl hS ?_
  refine tkS (i := 2) (v := .pointer (some ⟨g, 0, none⟩)) rfl hS ?_
  refine tkS (i := 3) (v := .pointer (some ⟨g, 1, none⟩)) rfl hS ?_
  refine tkY (i := 4) (v := .string nm) rfl (Or.inl ⟨by rfl, fun w' hw => by obtain ⟨⟨h0, h1, h2, h3, h4, h5, h6, h7⟩, g1, g2⟩ := HF w' hw; go_simp⟩) hS ?_
  refine tkS (i := 5) (v := .pointer (some ⟨g, 0, none⟩)) rfl hS ?_
  refine tkS (i := 6) (v := .pointer (some ⟨g, 0, none⟩)) rfl hS ?_
  refine tkS (i := 7) (v := .pointer (some ⟨g, 2, none⟩)) rfl hS ?_
  refine tkY (i := 8) (v := .int .i64 ty) rfl (Or.inl ⟨by rfl, fun w' hw => by obtain ⟨⟨h0, h1, h2, h3, h4, h5, h6, h7⟩, g1, g2⟩ := HF w' hw; go_simp⟩) hS ?_
  refine wpAnyH_ready (rs := [9, 13]) (by kernel_rfl) (by simp) ?_
  refine AllReadyH.cons rfl (fun K hK => ?_) (AllReadyH.cons rfl (fun K hK => ?_) AllReadyH.nil)
  ·go_simp
   refine (says_none h en tr pa mx now nid ty mp nm _ (HM.below (Below.refl _ _).drew) hnm hty).mono ?_
   rintro e w5 ⟨rfl, hb5⟩
   have hB5 : Below X.heap.size X w5 := Below.trans (Below.refl _ _).drew hb5
   refine hK.out _ _ hB5 fun hS => ?_
   refine tkS (i := 10) (v := .tuple #[zEnt, .bool false]) rfl hS ?_
   refine tkS (i := 11) (v := zEnt) rfl hS ?_
   refine tkS (i := 12) (v := .bool false) rfl hS ?_
   refine wpAnyH_ready (rs := [13]) (by kernel_rfl) (by simp) ?_
   refine AllReadyH.cons rfl (fun K hK => ?_) AllReadyH.nil
   go_simp
   refine hK.out _ _ (hB5.alloc hB5.size _) fun hS => ?_
   refine wpAnyH_ready (rs := [14]) (by kernel_rfl) (by simp) ?_
   refine AllReadyH.cons rfl (fun K hK => ?_) AllReadyH.nil
   go_simp
   refine hK.out _ _ (hB5.alloc hB5.size _) fun hS => ?_
   refine tkS (i := 15) (v := .bool false) rfl hS ?_
   refine wpAnyH_done (by kernel_rfl) ?_ _
   go_wp2_with fail
   go_meet
   exact ⟨rfl, hB5.alloc hB5.size _⟩
  ·go_simp
   have hA : Below X.heap.size X (X.drew.alloc (.cells #[.string ⟨#[]⟩, .int .i64 0, .int .i64 0, .int .i64 0, .slice none 0 0] 167)) := (Below.refl _ _).drew.alloc (Nat.le_refl _) _
   refine hK.out _ _ hA fun hS => ?_
   refine wpAnyH_ready (rs := [9]) (by kernel_rfl) (by simp) ?_
   refine AllReadyH.cons rfl (fun K hK => ?_) AllReadyH.nil
   go_simp
   refine (says_none h en tr pa mx now nid ty mp nm _ (HM.below hA) hnm hty).mono ?_
   rintro e w5 ⟨rfl, hb5⟩
   have hB5 : Below X.heap.size X w5 := hA.trans (hb5.mono hA.size)
   have rb : w5.heap[X.heap.size]? = some (.cells #[.string ⟨#[]⟩, .int .i64 0, .int .i64 0, .int .i64 0, .slice none 0 0] 167 (0, 0)) := (hb5.block _ (show X.heap.size < (X.drew.alloc _).heap.size by rw [World.size_alloc]; exact Nat.lt_succ_self _)).trans (World.alloc_heap_new X.drew _)
   obtain ⟨r0, r1, r2, r3, r4⟩ := cells5 rb
   have rf : ∀ k, w5.frozen? ⟨X.heap.size, k, none⟩ = false := fun k => frozen_of_row w5 _ k _ 167 rb
   refine hK.out _ _ hB5 fun hS => ?_
   refine tkS (i := 10) (v := .tuple #[zEnt, .bool false]) rfl hS ?_
   refine tkS (i := 11) (v := zEnt) rfl hS ?_
   refine tkS (i := 12) (v := .bool false) rfl hS ?_
   refine wpAnyH_ready (rs := [14]) (by kernel_rfl) (by simp) ?_
   refine AllReadyH.cons rfl (fun K hK => ?_) AllReadyH.nil
   go_simp
   have hB6 := ((((hB5.set (Nat.le_refl _) 0 (.string ⟨#[]⟩)).set (Nat.le_refl _) 1 (.int .i64 0)).set (Nat.le_refl _) 2 (.int .i64 0)).set (Nat.le_refl _) 3 (.int .i64 0)).set (Nat.le_refl _) 4 (.slice none 0 0)
   refine hK.out _ _ hB6 fun hS => ?_
   refine tkS (i := 15) (v := .bool false) rfl hS ?_
   refine wpAnyH_done (by kernel_rfl) ?_ _
   go_wp2_with fail
   go_meet
   exact ⟨rfl, hB6⟩
 case rest =>
  obtain ⟨rfl, hb2⟩ := hcut
  have HF : ∀ w', Below wc.heap.size wc w' → _ := fun w' hb' => hF0 w' (hb2.trans (hb'.mono hb2.size))
  have HM : Mem0 wc mp := HM.below hb2
  go_wp2_with fail
  go_cut [9] (fun s wc2 => NoCut wc s wc2)
  case first =>
   refine wp_region_held_drew (S := fun w' => Below wc.heap.size wc w') (by kernel_rfl) (Below.refl _ _).drew (fun hS => ?_)
   refine tkY (i := 0) (v := wV h en tr pa mx mp now nid) rfl (Or.inl ⟨by rfl, fun w' hw => by obtain ⟨⟨h0, h1, h2, h3, h4, h5, h6, h7⟩, g1, g2⟩ := HF w' hw; go_simp⟩) hS ?_
   refine tkS (i := 1) (v := .pointer (some ⟨g, 0, none⟩)) rfl hS ?_
   refine tkS (i := 2) (v := .pointer (some ⟨g, 0, none⟩)) rfl hS ?_
   refine tkS (i := 3) (v := .pointer (some ⟨g, 1, none⟩)) rfl hS ?_
   refine tkY (i := 4) (v := .string nm) rfl (Or.inl ⟨by rfl, fun w' hw => by obtain ⟨⟨h0, h1, h2, h3, h4, h5, h6, h7⟩, g1, g2⟩ := HF w' hw; go_simp⟩) hS ?_
   refine wpAnyH_ready (rs := [5, 9]) (by kernel_rfl) (by simp) ?_
   refine AllReadyH.cons rfl (fun K hK => ?_) (AllReadyH.cons rfl (fun K hK => ?_) AllReadyH.nil)
   ·go_simp
    refine (says_none h en tr pa mx now nid 3 mp nm _ (HM.below (Below.refl _ _).drew) hnm (by decide)).mono ?_
    rintro e w5 ⟨rfl, hb5⟩
    have hB5 : Below wc.heap.size wc w5 := Below.trans (Below.refl _ _).drew hb5
    refine hK.out _ _ hB5 fun hS => ?_
    refine tkS (i := 6) (v := .tuple #[zEnt, .bool false]) rfl hS ?_
    refine tkS (i := 7) (v := zEnt) rfl hS ?_
    refine tkS (i := 8) (v := .bool false) rfl hS ?_
    refine wpAnyH_ready (rs := [9]) (by kernel_rfl) (by simp) ?_
    refine AllReadyH.cons rfl (fun K hK => ?_) AllReadyH.nil
    go_simp
    refine hK.out _ _ (hB5.alloc hB5.size _) fun hS => ?_
    refine wpAnyH_ready (rs := [10]) (by kernel_rfl) (by simp) ?_
    refine AllReadyH.cons rfl (fun K hK => ?_) AllReadyH.nil
    go_simp
    refine hK.out _ _ (hB5.alloc hB5.size _) fun hS => ?_
    refine tkS (i := 11) (v := .bool false) rfl hS ?_
    refine wpAnyH_done (by kernel_rfl) ?_ _
    go_wp2_with fail
    go_meet
    exact ⟨rfl, hB5.alloc hB5.size _⟩
   ·go_simp
    have hA : Below wc.heap.size wc (wc.drew.alloc (.cells #[.string ⟨#[]⟩, .int .i64 0, .int .i64 0, .int .i64 0, .slice none 0 0] 167)) := (Below.refl _ _).drew.alloc (Nat.le_refl _) _
    refine hK.out _ _ hA fun hS => ?_
    refine wpAnyH_ready (rs := [5]) (by kernel_rfl) (by simp) ?_
    refine AllReadyH.cons rfl (fun K hK => ?_) AllReadyH.nil
    go_simp
    refine (says_none h en tr pa mx now nid 3 mp nm _ (HM.below hA) hnm (by decide)).mono ?_
    rintro e w5 ⟨rfl, hb5⟩
    have hB5 : Below wc.heap.size wc w5 := hA.trans (hb5.mono hA.size)
    have rb : w5.heap[wc.heap.size]? = some (.cells #[.string ⟨#[]⟩, .int .i64 0, .int .i64 0, .int .i64 0, .slice none 0 0] 167 (0, 0)) := (hb5.block _ (show wc.heap.size < (wc.drew.alloc _).heap.size by rw [World.size_alloc]; exact Nat.lt_succ_self _)).trans (World.alloc_heap_new wc.drew _)
    obtain ⟨r0, r1, r2, r3, r4⟩ := cells5 rb
    have rf : ∀ k, w5.frozen? ⟨wc.heap.size, k, none⟩ = false := fun k => frozen_of_row w5 _ k _ 167 rb
    refine hK.out _ _ hB5 fun hS => ?_
    refine tkS (i := 6) (v := .tuple #[zEnt, .bool false]) rfl hS ?_
    refine tkS (i := 7) (v := zEnt) rfl hS ?_
    refine tkS (i := 8) (v := .bool false) rfl hS ?_
    refine wpAnyH_ready (rs := [10]) (by kernel_rfl) (by simp) ?_
    refine AllReadyH.cons rfl (fun K hK => ?_) AllReadyH.nil
    go_simp
    have hB6 := ((((hB5.set (Nat.le_refl _) 0 (.string ⟨#[]⟩)).set (Nat.le_refl _) 1 (.int .i64 0)).set (Nat.le_refl _) 2 (.int .i64 0)).set (Nat.le_refl _) 3 (.int .i64 0)).set (Nat.le_refl _) 4 (.slice none 0 0)
    refine hK.out _ _ hB6 fun hS => ?_
    refine tkS (i := 11) (v := .bool false) rfl hS ?_
    refine wpAnyH_done (by kernel_rfl) ?_ _
    go_wp2_with fail
    go_meet
    exact ⟨rfl, hB6⟩
  case rest =>
   obtain ⟨rfl, hb3⟩ := hcut
   have hB3 := hb2.trans (hb3.mono hb2.size)
   obtain ⟨⟨q0, q1, q2, q3, q4, q5, q6⟩, g1, g2⟩ := hF0 wc hB3
   have HM3 : Mem0 wc mp := HM.below hb3
   have hgc : g < wc.heap.size := Nat.lt_of_lt_of_le hgX hB3.size
   have r4 := (hB3.block (w.heap.size + 1) hz0).trans x1
   have hzc : w.heap.size + 1 < wc.heap.size := Nat.lt_of_lt_of_le hz0 hB3.size
   have HR : Hid (∀ w9, Below wc.heap.size wc w9 → w9.heap[w.heap.size + 1]? = some (.cells #[.int .i64 0, .slice none 0 0] 287 (0, 0))) := fun w9 hb9 => (hb9.block _ hzc).trans r4
   have hB : Below w.heap.size w wc := x3.trans (hB3.mono (by omega))
   clear HF hF0
   go_wp2_with (go_at_call 244; refine (nothing_none g mp h en tr pa mx now nid ty nm _ HM3 hgc g1 g2 hnm hty).mono ?_; rintro e w9 ⟨rfl, hb9⟩; have r9 := HR.out w9 hb9; have e0 : w9.cell? ⟨w.heap.size + 1, 0, none⟩ = some (.int .i64 0) := (by rw [cell_blk r9]; rfl); have e1 : w9.cell? ⟨w.heap.size + 1, 1, none⟩ = some (.slice none 0 0) := (by rw [cell_blk r9]; rfl); have ef : ∀ k, w9.frozen? ⟨w.heap.size + 1, k, none⟩ = false := fun k => frozen_of_row w9 _ k _ 287 r9)
   refine bodyPost_ret (v := .tuple #[endV 0, .bool false]) (by simp [results, Tryz.results182, go_sem, e0, e1]) rfl ⟨rfl, ?_⟩
   have hB9 : Below w.heap.size w w9 := hB.trans (hb9.mono (by have := hB.size; omega))
   exact (hB9.set (Nat.le_succ _) 0 _).set (Nat.le_succ _) 1 _
end Go.Proofs.YtefdokkadckbbaaGreatDoor
end
section
namespace Go.Proofs.YtefdokkadckbbaaGreatDoor
open Go.RowKit Go.Shelf Go.MapKept Go.Maps
attribute [local go_sem] Oper.semAt_some
set_option maxRecDepth 100000
def StepR (hs : List Int) (tr now nid : Int) (b : Tb) (t : Tk) (w : World) (v : Value) (w' : World) : Prop :=
 match nextS hs tr t with
 | some a => v = stepV false a nid false 0 t.nm t.ty (.slice none 0 0) (.slice none 0 0) (.slice none 0 0) ∧ Kept [b.tb, b.m] w w' ∧ PTk w' b (triedS now t a)
 | none => Below w.heap.size w w' ∧ ∃ (aa as_ am : Option Addr) (ca cs cm : Nat), v = stepV true 0 t.id true 2 t.nm t.ty (.slice aa 0 ca) (.slice as_ 0 cs) (.slice am 0 cm)
theorem allocs4 (w : World) (o0 o1 o2 o3 : Obj) : ∃ X, (((w.alloc o0).alloc o1).alloc o2).alloc o3 = X ∧ X.heap[w.heap.size]? = some o0 ∧ X.heap[w.heap.size + 1]? = some o1 ∧ X.heap[w.heap.size + 1 + 1]? = some o2 ∧ X.heap[w.heap.size + 1 + 1 + 1]? = some o3 ∧ X.heap.size = w.heap.size + 4 ∧ Below w.heap.size w X := by
 refine ⟨_, rfl, ?_, ?_, ?_, ?_, by simp, (((Below.refl _ _).alloc (Nat.le_refl _) _).alloc (by simp) _).alloc (by simp; omega) _ |>.alloc (by simp; omega) _⟩
 ·rw [Below.heap_alloc _ _ _ (by first | (simp; done) | (simp; omega)), Below.heap_alloc _ _ _ (by first | (simp; done) | (simp; omega)), Below.heap_alloc _ _ _ (by first | (simp; done) | (simp; omega))]
  exact World.alloc_heap_new _ _
 ·rw [Below.heap_alloc _ _ _ (by first | (simp; done) | (simp; omega)), Below.heap_alloc _ _ _ (by first | (simp; done) | (simp; omega))]
  have := World.alloc_heap_new (w.alloc o0) o1
  rwa [World.size_alloc] at this
 ·rw [Below.heap_alloc _ _ _ (by first | (simp; done) | (simp; omega))]
  have := World.alloc_heap_new ((w.alloc o0).alloc o1) o2
  rwa [World.size_alloc, World.size_alloc] at this
 ·have := World.alloc_heap_new (((w.alloc o0).alloc o1).alloc o2) o3
  rwa [World.size_alloc, World.size_alloc, World.size_alloc] at this
abbrev zStepO : Obj := .cells #[.bool false, .int .i64 0, .int .i64 0, .bool false, .int .i64 0, .string ⟨#[]⟩, .int .i64 0, .slice none 0 0, .slice none 0 0, .slice none 0 0] 178 (0, 0)
abbrev stepO (ended : Bool) (addr id : Int) (rp : Bool) (code : Int) (nm : ByteArray) (ty : Int) (va vs vm : Value) : Obj := .cells #[.bool ended, .int .i64 addr, .int .i64 id, .bool rp, .int .i64 code, .string nm, .int .i64 ty, va, vs, vm] 178 (0, 0)
theorem step_set {W : World} {B : Nat} {c0 c1 c2 c3 c4 c5 c6 c7 c8 c9 : Value} (ended : Bool) (addr id : Int) (rp : Bool) (code : Int) (nm : ByteArray) (ty : Int) (va vs vm : Value) (h : W.heap[B]? = some (.cells #[c0, c1, c2, c3, c4, c5, c6, c7, c8, c9] 178 (0, 0))) :
  ((((((((((W.setCell ⟨B, 0, none⟩ (.bool ended)).setCell ⟨B, 1, none⟩ (.int .i64 addr)).setCell ⟨B, 2, none⟩ (.int .i64 id)).setCell ⟨B, 3, none⟩ (.bool rp)).setCell ⟨B, 4, none⟩ (.int .i64 code)).setCell ⟨B, 5, none⟩ (.string nm)).setCell ⟨B, 6, none⟩ (.int .i64 ty)).setCell ⟨B, 7, none⟩ va).setCell ⟨B, 8, none⟩ vs).setCell ⟨B, 9, none⟩ vm).heap[B]? = some (stepO ended addr id rp code nm ty va vs vm) := by
 have s0 := heap_setCell_same W B 0 _ 178 (.bool ended) h
 have s1 := heap_setCell_same _ B 1 _ 178 (.int .i64 addr) s0
 have s2 := heap_setCell_same _ B 2 _ 178 (.int .i64 id) s1
 have s3 := heap_setCell_same _ B 3 _ 178 (.bool rp) s2
 have s4 := heap_setCell_same _ B 4 _ 178 (.int .i64 code) s3
 have s5 := heap_setCell_same _ B 5 _ 178 (.string nm) s4
 have s6 := heap_setCell_same _ B 6 _ 178 (.int .i64 ty) s5
 have s7 := heap_setCell_same _ B 7 _ 178 va s6
 have s8 := heap_setCell_same _ B 8 _ 178 vs s7
 have s9 := heap_setCell_same _ B 9 _ 178 vm s8
 simpa using s9
theorem kept_low {L : List Nat} {B : Nat} {w W W' : World} (h : Kept L w W) (hb : Below B W W') (hB : w.heap.size ≤ B) : Kept L w W' :=
 ⟨hb.os.trans h.os, hb.tape.trans h.tape, hb.output.trans h.output, Nat.le_trans h.size hb.size, fun k hk hn => (hb.block k (by omega)).trans (h.block k hk hn)⟩
theorem below_low {B : Nat} {w W W' : World} (h : Below w.heap.size w W) (hb : Below B W W') (hB : w.heap.size ≤ B) : Below w.heap.size w W' :=
 ⟨hb.os.trans h.os, hb.tape.trans h.tape, hb.output.trans h.output, Nat.le_trans h.size hb.size, fun k hk => (hb.block k (by omega)).trans (h.block k hk)⟩
theorem PTk.lt {W : World} {b : Tb} {t : Tk} (h : PTk W b t) : b.tb < W.heap.size ∧ b.gb < W.heap.size ∧ b.g < W.heap.size ∧ b.m < W.heap.size := by
 obtain ⟨⟨aa, as_, am, ca, cs, cm, gc, wn, wt, wz, wi, wa, q1⟩, ⟨cur, q2, q3⟩, q4, q5⟩ := h
 exact ⟨(Array.getElem?_eq_some_iff.1 q1).1, (Array.getElem?_eq_some_iff.1 q2).1, (Array.getElem?_eq_some_iff.1 q4).1, q5.lt⟩
theorem StepR.low {hs : List Int} {tr now nid : Int} {b : Tb} {t : Tk} {w W W' : World} {v : Value} {B : Nat} (h : StepR hs tr now nid b t w v W) (hb : Below B W W') (hB : w.heap.size ≤ B) (hl : b.tb < B ∧ b.gb < B ∧ b.g < B ∧ b.m < B) : StepR hs tr now nid b t w v W' := by
 unfold StepR at h ⊢
 cases hx : nextS hs tr t with
 | some a =>
  rw [hx] at h
  obtain ⟨h1, h2, h3⟩ := h
  exact ⟨h1, kept_low h2 hb hB, h3.same (hb.block _ hl.1) (hb.block _ hl.2.1) (hb.block _ hl.2.2.1) (hb.block _ hl.2.2.2)⟩
 | none =>
  rw [hx] at h
  exact ⟨below_low h.1 hb hB, h.2⟩
theorem top_leaves {n S D : Nat} {tmps : Array Value} {R : Ending → World → Prop} {W : World} {ended : Bool} {addr id : Int} {rp : Bool} {code : Int} {nm : ByteArray} {ty : Int} {va vs vm : Value} (h3 : W.heap[S + 2]? = some (stepO ended addr id rp code nm ty va vs vm)) (h4 : W.heap[S + 3]? = some (.cells #[.bool true] 4 (0, 0)))
  (t6 : tmps[4]? = some (.pointer (some ⟨S + 2, 0, none⟩))) (t7 : tmps[5]? = some (.pointer (some ⟨S + 3, 0, none⟩))) (hK : W.heap[D]? = some (.deferred (some []))) (hD : S + 5 ≤ D) (hR : R (.returned (.tuple #[stepV ended addr id rp code nm ty va vs vm, .bool true])) (W.putObj D (.deferred none))) :
  LeavesInM Fence.wide n Tryz.prog Tryz.f136 tmps R [{ target := .collected D, args := #[] }] .returning W := by
 have k3 : (W.putObj D (.deferred none)).heap[S + 2]? = some (stepO ended addr id rp code nm ty va vs vm) := (World.putObj_heap_other (by omega)).trans h3
 have k4 : (W.putObj D (.deferred none)).heap[S + 3]? = some (.cells #[.bool true] 4 (0, 0)) := (World.putObj_heap_other (by omega)).trans h4
 obtain ⟨y0, y1, y2, y3, y4, y5, y6, y7, y8, y9⟩ := cells10 k3
 have z0 : (W.putObj D (.deferred none)).cell? ⟨S + 3, 0, none⟩ = some (.bool true) := by rw [cell_blk k4]; rfl
 refine ⟨by simp, .inl ⟨_, _, rfl, run_takeDeferred hK, ?_⟩⟩
 refine ⟨.tuple #[stepV ended addr id rp code nm ty va vs vm, .bool true], ?_, hR⟩
 simp [results, Tryz.results136, go_sem, y0, y1, y2, y3, y4, y5, y6, y7, y8, y9, z0, t6, t7]
theorem flag_set {B : Nat} (W : World) (h : W.heap[B]? = some (.cells #[.bool false] 4 (0, 0))) : (W.setCell ⟨B, 0, none⟩ (.bool true)).heap[B]? = some (.cells #[.bool true] 4 (0, 0)) := by
 have := heap_setCell_same W B 0 _ 4 (.bool true) h
 simpa using this
theorem stays_of_kept {L : List Nat} {B : Nat} {W W' : World} (h : Kept L W W') (hL : ∀ k ∈ L, k < B) : Stays B W W' := ⟨h.size, fun k hB hk => h.block k hk fun hm => by have := hL k hm; omega⟩
theorem PTk.apart {W : World} {b : Tb} {t : Tk} (h : PTk W b t) : b.gb ≠ b.tb ∧ b.gb ≠ b.m ∧ b.g ≠ b.tb ∧ b.g ≠ b.m ∧ b.m ≠ b.tb := by
 obtain ⟨⟨aa, as_, am, ca, cs, cm, gc, wn, wt, wz, wi, wa, q1⟩, ⟨cur, q2, q3⟩, q4, ⟨f, ⟨es, ck, q5, _⟩, _⟩⟩ := h
 refine ⟨kind_ne q2 q1 (by decide), ?_, kind_ne q4 q1 (by decide), ?_, ?_⟩
 ·intro e; rw [e, q5] at q2; cases q2
 ·intro e; rw [e, q5] at q4; cases q4
 ·intro e; rw [e, q1] at q5; cases q5
theorem send_step (b : Tb) (t : Tk) (h : Value) (hs : List Int) (en tr pa mx now nid a : Int) (mp k : Nat) (w W : World) (hP : PTk W b t) (hl : b.tb < w.heap.size ∧ b.gb < w.heap.size ∧ b.g < w.heap.size ∧ b.m < w.heap.size) (ht : TkOk t k) (hB : Below w.heap.size w W) (hf : hs.find? (fun a => decide (t.cnt a < tr)) = some a) (ha : (Lit.int .i64 a).wf = true) :
  Calls Tryz.prog 186 #[.pointer (some ⟨b.tb, 0, none⟩), wV h en tr pa mx mp now nid, .pointer (some ⟨b.g, 0, none⟩), placeV ⟨#[]⟩ ⟨#[]⟩ a] W fun e W' =>
   ∃ (ended : Bool) (addr id : Int) (rp : Bool) (code : Int) (nm : ByteArray) (ty : Int) (aa as_ am : Option Addr) (na ns nn ca cs cm : Nat), e = .returned (stepV ended addr id rp code nm ty (.slice aa na ca) (.slice as_ ns cs) (.slice am nn cm)) ∧ Kept [b.tb, b.m] W W' ∧ StepR hs tr now nid b t w (stepV ended addr id rp code nm ty (.slice aa na ca) (.slice as_ ns cs) (.slice am nn cm)) W' := by
 obtain ⟨h1, h2, h3, h4, h5⟩ := hP.apart
 obtain ⟨⟨aa, as_, am, ca, cs, cm, gc, wn, wt, wz, wi, wa, q1⟩, ⟨cur, q2, q3⟩, q4, q5⟩ := id hP
 have hnm : t.nm.size ≤ maxLen := by have := nameOk_size _ ht.nm; rw [tl_length] at this; unfold maxLen; omega
 have hz := hB.size
 by_cases h16 : 16 ≤ t.sends
 ·have hnx : nextS hs tr t = none := by unfold nextS; rw [if_pos h16]
  refine (send_full b.tb b.g _ _ _ _ _ _ aa as_ am 0 0 0 ca cs cm _ _ _ _ _ _ _ _ h en tr pa mx now nid a mp W q1 h16).mono ?_
  rintro e W' ⟨rfl, hb⟩
  refine ⟨_, _, _, _, _, _, _, _, _, _, _, _, _, _, _, _, rfl, kept_of_below hb, ?_⟩
  unfold StepR
  rw [hnx]
  exact ⟨hB.trans (hb.mono hz), _, _, _, _, _, _, rfl⟩
 ·have hnx : nextS hs tr t = some a := by unfold nextS; rw [if_neg h16]; exact hf
  have hlt : t.cnt a < tr := by simpa using List.find?_some hf
  have cg1 : W.cell? ⟨b.g, 1, none⟩ = some (.string t.nm) := by rw [cell_blk q4]; rfl
  have cg2 : W.cell? ⟨b.g, 2, none⟩ = some (.int .i64 t.ty) := by rw [cell_blk q4]; rfl
  have cg4 : W.cell? ⟨b.g, 4, none⟩ = some (.map (some b.m)) := by rw [cell_blk q4]; rfl
  have hc := ht.cnt a
  refine (send_any b.tb b.g b.m _ _ _ _ _ _ _ _ _ _ _ _ _ _ _ _ _ h en tr pa mx now nid a t.ty mp t.nm t.cnt W q1 (by omega) ht.sends.1 hP.lt.2.2.1 cg1 cg2 cg4 q5 hnm ha h3 (by omega)).mono ?_
  rintro e W' ⟨rfl, hk, hT, hm⟩
  refine ⟨_, _, _, _, _, _, _, _, _, _, _, _, _, _, _, _, rfl, hk, ?_⟩
  unfold StepR
  rw [hnx]
  refine ⟨rfl, ⟨hk.os.trans hB.os, hk.tape.trans hB.tape, hk.output.trans hB.output, Nat.le_trans hz hk.size, fun j hj hn => (hk.block j (by omega) hn).trans (hB.block j hj)⟩, ⟨aa, as_, am, ca, cs, cm, gc, _, _, _, _, _, hT⟩, ⟨cur, (hk.block _ (by omega) (by simp; omega)).trans q2, q3⟩, (hk.block _ (by omega) (by simp; omega)).trans q4, hm⟩
end Go.Proofs.YtefdokkadckbbaaGreatDoor
end
section
namespace Go.Proofs.YtefdokkadckbbaaGreatDoor
open Go.RowKit
theorem sets10n {b k : Nat} {u0 u1 u2 u3 u4 u5 u6 u7 u8 u9 : Value} (W : World) (h : k ≠ b) :
  ((((((((((W.setCell ⟨b, 0, none⟩ u0).setCell ⟨b, 1, none⟩ u1).setCell ⟨b, 2, none⟩ u2).setCell ⟨b, 3, none⟩ u3).setCell ⟨b, 4, none⟩ u4).setCell ⟨b, 5, none⟩ u5).setCell ⟨b, 6, none⟩ u6).setCell ⟨b, 7, none⟩ u7).setCell ⟨b, 8, none⟩ u8).setCell ⟨b, 9, none⟩ u9).heap[k]? = W.heap[k]? := by
 rw [Below.heap_setCell _ _ _ _ h, Below.heap_setCell _ _ _ _ h, Below.heap_setCell _ _ _ _ h, Below.heap_setCell _ _ _ _ h, Below.heap_setCell _ _ _ _ h, Below.heap_setCell _ _ _ _ h, Below.heap_setCell _ _ _ _ h, Below.heap_setCell _ _ _ _ h, Below.heap_setCell _ _ _ _ h, Below.heap_setCell _ _ _ _ h]
end Go.Proofs.YtefdokkadckbbaaGreatDoor
end
