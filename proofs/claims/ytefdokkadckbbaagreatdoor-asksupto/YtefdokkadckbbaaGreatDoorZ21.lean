/- T6 -/
import Derived.Test.YtefdokkadckbbaaGreatDoorZ20
import Derived.Deep.DeepCutAuto
namespace Go.Proofs.YtefdokkadckbbaaGreatDoor
open Go.RowKit Go.Shelf Go.MapKept Go.Maps
set_option maxRecDepth 100000
theorem wf_size {n : Int} (h0 : -9223372036854775808 ≤ n) (h1 : n ≤ 9223372036854775807) : (Lit.int .i64 n).wf = true := by
 simp [Lit.wf, IntKind.min, IntKind.max, IntKind.signed, IntKind.bits]
 omega
theorem allocs3 (w : World) (o0 o1 o2 : Obj) : ∃ X, ((w.alloc o0).alloc o1).alloc o2 = X ∧ X.heap[w.heap.size]? = some o0 ∧ X.heap[w.heap.size + 1]? = some o1 ∧ X.heap[w.heap.size + 2]? = some o2 ∧ X.heap.size = w.heap.size + 3 ∧ Below w.heap.size w X := by
 refine ⟨_, rfl, ?_, ?_, ?_, by simp, (((Below.refl _ _).alloc (Nat.le_refl _) _).alloc (by simp) _).alloc (by simp; omega) _⟩
 ·rw [Below.heap_alloc _ _ _ (by first | (simp; done) | (simp; omega)), Below.heap_alloc _ _ _ (by first | (simp; done) | (simp; omega))]
  exact World.alloc_heap_new _ _
 ·rw [Below.heap_alloc _ _ _ (by first | (simp; done) | (simp; omega))]
  have := World.alloc_heap_new (w.alloc o0) o1
  rwa [World.size_alloc] at this
 ·have := World.alloc_heap_new ((w.alloc o0).alloc o1) o2
  rwa [World.size_alloc, World.size_alloc] at this
theorem send_start (h : Value) (en tr pa mx now nid a : Int) (mp : Nat) (w : World) : ∃ X, ((w.alloc (.cells #[h, .int .i64 en, .int .i64 tr, .int .i64 pa, .int .i64 mx, .pointer (some ⟨mp, 0, none⟩), .int .i64 now, .int .i64 nid] 122)).alloc (.cells #[.string ⟨#[]⟩, .string ⟨#[]⟩, .int .i64 a] 297)).alloc
   (.cells #[.bool false, .int .i64 0, .int .i64 0, .bool false, .int .i64 0, .string ⟨#[]⟩, .int .i64 0, .slice none 0 0, .slice none 0 0, .slice none 0 0] 178) = X ∧
  X.heap[w.heap.size]? = some (.cells #[h, .int .i64 en, .int .i64 tr, .int .i64 pa, .int .i64 mx, .pointer (some ⟨mp, 0, none⟩), .int .i64 now, .int .i64 nid] 122 (0, 0)) ∧ X.heap[w.heap.size + 1]? = some (.cells #[.string ⟨#[]⟩, .string ⟨#[]⟩, .int .i64 a] 297 (0, 0)) ∧
  X.heap[w.heap.size + 1 + 1]? = some (.cells #[.bool false, .int .i64 0, .int .i64 0, .bool false, .int .i64 0, .string ⟨#[]⟩, .int .i64 0, .slice none 0 0, .slice none 0 0, .slice none 0 0] 178 (0, 0)) ∧ X.heap.size = w.heap.size + 3 ∧ Below w.heap.size w X := allocs3 w _ _ _
open Classical in
def bumped (cnt : Int → Int) (a : Int) : Int → Int := fun b => if b = a then cnt a + 1 else cnt b
theorem att_inj {nm : ByteArray} {a b : Int} (h : attV nm b = attV nm a) : b = a := by
 simp only [attV, Value.agg.injEq, Array.mk.injEq, List.cons.injEq, Value.int.injEq, and_true, true_and] at h
 exact h
theorem Tries.bump {W : World} {m : Nat} {nm : ByteArray} {cnt : Int → Int} (h : Tries W m nm cnt) (hn : nm.size ≤ maxLen) {a : Int} (ha : (Lit.int .i64 a).wf = true) :
  ∃ (v : Value) (born : Nat) (o1 o2 : Obj), (Instr.mapEntry 240 (.map (some m)) (attV nm a)).run Tryz.prog W = .ok (.tuple #[v, .int .i64 born]) (W.putObj m o1) ∧ (Instr.entryStore 240 (.map (some m)) (.int .i64 born) (.int .i64 (cnt a + 1))).run Tryz.prog (W.putObj m o1) = .ok () ((W.putObj m o1).putObj m o2) ∧
   Tries ((W.putObj m o1).putObj m o2) m nm (bumped cnt a) ∧ (Instr.lookup 240 (.map (some m)) (attV nm a) false).run Tryz.prog (W.putObj m o1) = .ok (.int .i64 (cnt a)) (W.putObj m o1) := by
 obtain ⟨f, h1, h2⟩ := h
 have hk := key261 nm ⟨#[]⟩ a hn (by decide) ha
 obtain ⟨v, born, o1, o2, e1, e2, e3, f1, e4, e5⟩ := h1.bump law261 u187 (zv3 W) hk (.int .i64 (cnt a + 1))
 refine ⟨v, born, o1, o2, e1, e2, ⟨_, e3, fun b hb => ?_⟩, ?_⟩
 ·unfold bumped
  by_cases hba : b = a
  ·subst hba
   rw [upd_same, if_pos rfl]; rfl
  ·rw [upd_other f _ (fun e => hba (att_inj e)), if_neg hba]
   exact h2 b hb
 ·rw [e4.look law261 u187 (zv3 _) hk, e5]
  rw [Option.getD_some, h2 a ha]
def SCells (w Y : World) (g m : Nat) (nm : ByteArray) (a : Int) (w' : World) : Prop :=
 w'.cell? ⟨g, 4, none⟩ = some (.map (some m)) ∧ w'.cell? ⟨g, 1, none⟩ = some (.string nm) ∧ w'.cell? ⟨w.heap.size + 1, 0, none⟩ = some (.string ⟨#[]⟩) ∧ w'.cell? ⟨w.heap.size + 1, 1, none⟩ = some (.string ⟨#[]⟩) ∧ w'.cell? ⟨w.heap.size + 1, 2, none⟩ = some (.int .i64 a) ∧ Kept [m] Y w'
theorem scells {w Y : World} {g m : Nat} {nm : ByteArray} {a : Int} {w' : World} (h : SCells w Y g m nm a Y) (hk : Kept [m] Y w') (hg : g < Y.heap.size) (hgm : g ≠ m) (hw : w.heap.size + 1 < Y.heap.size) (hwm : w.heap.size + 1 ≠ m) : SCells w Y g m nm a w' := by
 obtain ⟨h1, h2, h3, h4, h5, _⟩ := h
 have eg : w'.heap[g]? = Y.heap[g]? := hk.block g hg (by simp [hgm])
 have ew : w'.heap[w.heap.size + 1]? = Y.heap[w.heap.size + 1]? := hk.block _ hw (by simp [hwm])
 exact ⟨(World.cell?_of_block eg).trans h1, (World.cell?_of_block eg).trans h2, (World.cell?_of_block ew).trans h3, (World.cell?_of_block ew).trans h4, (World.cell?_of_block ew).trans h5, hk⟩
def SCut (Y : World) (m : Nat) (nm : ByteArray) (cnt : Int → Int) (a : Int) (_ : Value) (wc : World) : Prop := Kept [m] Y wc ∧ Tries wc m nm (bumped cnt a)
theorem cells10 {W : World} {b : Nat} {t : TypeId} {v0 v1 v2 v3 v4 v5 v6 v7 v8 v9 : Value} (h : W.heap[b]? = some (.cells #[v0, v1, v2, v3, v4, v5, v6, v7, v8, v9] t (0, 0))) :
  W.cell? ⟨b, 0, none⟩ = some v0 ∧ W.cell? ⟨b, 1, none⟩ = some v1 ∧ W.cell? ⟨b, 2, none⟩ = some v2 ∧ W.cell? ⟨b, 3, none⟩ = some v3 ∧ W.cell? ⟨b, 4, none⟩ = some v4 ∧ W.cell? ⟨b, 5, none⟩ = some v5 ∧ W.cell? ⟨b, 6, none⟩ = some v6 ∧ W.cell? ⟨b, 7, none⟩ = some v7 ∧ W.cell? ⟨b, 8, none⟩ = some v8 ∧ W.cell? ⟨b, 9, none⟩ = some v9 := by
 refine ⟨?_, ?_, ?_, ?_, ?_, ?_, ?_, ?_, ?_, ?_⟩ <;> (rw [cell_blk h]; rfl)
theorem drew_heap (W : World) : W.drew.heap = W.heap := rfl
theorem sets10 {b k : Nat} {v0 v1 v2 v3 v4 v5 v6 v7 v8 v9 : Value} (W : World) (h : k ≠ b) : ((((((((((W.setCell ⟨b, 0, none⟩ v0).setCell ⟨b, 1, none⟩ v1).setCell ⟨b, 2, none⟩ v2).setCell ⟨b, 3, none⟩ v3).setCell ⟨b, 4, none⟩ v4).setCell ⟨b, 5, none⟩ v5).setCell ⟨b, 6, none⟩ v6).setCell ⟨b, 7, none⟩ v7).setCell ⟨b, 8, none⟩ v8).setCell ⟨b, 9, none⟩ v9).drew.heap[k]? = W.heap[k]? := by
 rw [drew_heap]
 rw [Below.heap_setCell _ _ _ _ h, Below.heap_setCell _ _ _ _ h, Below.heap_setCell _ _ _ _ h, Below.heap_setCell _ _ _ _ h, Below.heap_setCell _ _ _ _ h, Below.heap_setCell _ _ _ _ h, Below.heap_setCell _ _ _ _ h, Below.heap_setCell _ _ _ _ h, Below.heap_setCell _ _ _ _ h, Below.heap_setCell _ _ _ _ h]
set_option maxHeartbeats 2000000 in
theorem send_full (tb g : Nat) (num id : Int) (rp : Bool) (cd : Int) (qn : ByteArray) (qt : Int) (aa as_ am : Option Addr) (na ns nn ca cs cm : Nat) (gs : Value) (sends : Int) (wn : ByteArray) (wt : Int) (wz : ByteArray) (at_ wi wa : Int) (h : Value) (en tr pa mx now nid a : Int) (mp : Nat) (w : World)
  (ht : w.heap[tb]? = some (taskO num id rp cd qn qt (.slice aa na ca) (.slice as_ ns cs) (.slice am nn cm) gs sends wn wt wz at_ wi wa)) (hs : 16 ≤ sends) :
  Calls Tryz.prog 186 #[.pointer (some ⟨tb, 0, none⟩), wV h en tr pa mx mp now nid, .pointer (some ⟨g, 0, none⟩), placeV ⟨#[]⟩ ⟨#[]⟩ a] w fun e w' =>
   e = .returned (stepV true 0 id true 2 qn qt (.slice aa na ca) (.slice as_ ns cs) (.slice am nn cm)) ∧ Below w.heap.size w w' := by
 obtain ⟨X, hX, x0, x1, x2, x3, x4⟩ := send_start h en tr pa mx now nid a mp w
 have hlt : tb < w.heap.size := (Array.getElem?_eq_some_iff.1 ht).1
 have htX := (x4.block tb hlt).trans ht
 have q10 : X.cell? ⟨tb, 10, none⟩ = some (.int .i64 sends) := by rw [cell_blk htX]; rfl
 have w6 : X.cell? ⟨w.heap.size, 6, none⟩ = some (.int .i64 now) := by rw [cell_blk x0]; rfl
 go_enter Tryz.func186, Tryz.ntmps186
 go_wp2_with (go_at_call 245; refine (reply_none tb num id rp cd qn qt aa as_ am na ns nn ca cs cm gs sends wn wt wz at_ wi wa now 2 _ htX).mono ?_; rintro e w9 ⟨rfl, hb9⟩; have r2 := (hb9.block (w.heap.size + 1 + 1) (by omega)).trans x2; obtain ⟨r0, r1, r2', r3, r4, r5, r6, r7, r8, r9⟩ := cells10 r2; have rf : ∀ k, w9.frozen? ⟨w.heap.size + 1 + 1, k, none⟩ = false := fun k => frozen_of_row w9 _ k _ 178 r2)
 refine bodyPost_ret (v := stepV true 0 id true 2 qn qt (.slice aa na ca) (.slice as_ ns cs) (.slice am nn cm)) (by simp [results, Tryz.results186, go_sem, r0, r1, r2', r3, r4, r5, r6, r7, r8, r9]) rfl ⟨rfl, ?_⟩
 have hB : Below w.heap.size w w9 := x4.trans (hb9.mono (by omega))
 have hle : w.heap.size ≤ w.heap.size + 1 + 1 := by omega
 exact (((((((((hB.set hle 0 _).set hle 1 _).set hle 2 _).set hle 3 _).set hle 4 _).set hle 5 _).set hle 6 _).set hle 7 _).set hle 8 _).set hle 9 _
theorem box4 {W : World} {B : Nat} {t : TypeId} {c0 c1 c2 c3 : Value} (v0 v1 v2 v3 : Value) (h : W.heap[B]? = some (.cells #[c0, c1, c2, c3] t (0, 0))) :
  ((((W.setCell ⟨B, 0, none⟩ v0).setCell ⟨B, 1, none⟩ v1).setCell ⟨B, 2, none⟩ v2).setCell ⟨B, 3, none⟩ v3).heap[B]? = some (.cells #[v0, v1, v2, v3] t (0, 0)) := by
 have s0 := heap_setCell_same W B 0 _ t v0 h
 have s1 := heap_setCell_same _ B 1 _ t v1 s0
 have s2 := heap_setCell_same _ B 2 _ t v2 s1
 have s3 := heap_setCell_same _ B 3 _ t v3 s2
 simpa using s3
def SBox (w9 : World) (nm : ByteArray) (ty now : Int) (s : Value) (wc : World) : Prop := s = .pointer (some ⟨w9.heap.size, 0, none⟩) ∧ Below w9.heap.size w9 wc ∧ wc.heap[w9.heap.size]? = some (.cells #[.string nm, .int .i64 ty, .string ⟨#[]⟩, .int .i64 now] 182 (0, 0))
theorem task_waits {W : World} {tb : Nat} {num id : Int} {rp : Bool} {cd : Int} {qn : ByteArray} {qt : Int} {va vs vm gs : Value} {sends : Int} {wn : ByteArray} {wt : Int} {wz : ByteArray} {at_ wi wa : Int} (nm : ByteArray) (ty : Int) (z : ByteArray) (now nid a : Int)
  (h : W.heap[tb]? = some (taskO num id rp cd qn qt va vs vm gs sends wn wt wz at_ wi wa)) :
  ((((((W.setCell ⟨tb, 11, none⟩ (.string nm)).setCell ⟨tb, 12, none⟩ (.int .i64 ty)).setCell ⟨tb, 13, none⟩ (.string z)).setCell ⟨tb, 14, none⟩ (.int .i64 now)).setCell ⟨tb, 15, none⟩ (.int .i64 nid)).setCell ⟨tb, 16, none⟩ (.int .i64 a)).heap[tb]? = some (taskO num id rp cd qn qt va vs vm gs sends nm ty z now nid a) := by
 have s0 := heap_setCell_same W tb 11 _ 186 (.string nm) h
 have s1 := heap_setCell_same _ tb 12 _ 186 (.int .i64 ty) s0
 have s2 := heap_setCell_same _ tb 13 _ 186 (.string z) s1
 have s3 := heap_setCell_same _ tb 14 _ 186 (.int .i64 now) s2
 have s4 := heap_setCell_same _ tb 15 _ 186 (.int .i64 nid) s3
 have s5 := heap_setCell_same _ tb 16 _ 186 (.int .i64 a) s4
 simpa using s5
theorem sets6 {b k : Nat} {i0 i1 i2 i3 i4 i5 : Nat} {v0 v1 v2 v3 v4 v5 : Value} (W : World) (h : k ≠ b) : ((((((W.setCell ⟨b, i0, none⟩ v0).setCell ⟨b, i1, none⟩ v1).setCell ⟨b, i2, none⟩ v2).setCell ⟨b, i3, none⟩ v3).setCell ⟨b, i4, none⟩ v4).setCell ⟨b, i5, none⟩ v5).heap[k]? = W.heap[k]? := by
 rw [Below.heap_setCell _ _ _ _ h, Below.heap_setCell _ _ _ _ h, Below.heap_setCell _ _ _ _ h, Below.heap_setCell _ _ _ _ h, Below.heap_setCell _ _ _ _ h, Below.heap_setCell _ _ _ _ h]
set_option maxHeartbeats 4000000 in
theorem send_any (tb g m : Nat) (num id : Int) (rp : Bool) (cd : Int) (qn : ByteArray) (qt : Int) (va vs vm gs : Value) (sends : Int) (wn : ByteArray) (wt : Int) (wz : ByteArray) (at_ wi wa : Int) (h : Value) (en tr pa mx now nid a ty : Int) (mp : Nat) (nm : ByteArray) (cnt : Int → Int) (w : World)
  (ht : w.heap[tb]? = some (taskO num id rp cd qn qt va vs vm gs sends wn wt wz at_ wi wa)) (hs : sends < 16) (hs0 : 0 ≤ sends)
  (hg : g < w.heap.size) (hn : w.cell? ⟨g, 1, none⟩ = some (.string nm)) (hty : w.cell? ⟨g, 2, none⟩ = some (.int .i64 ty)) (hm : w.cell? ⟨g, 4, none⟩ = some (.map (some m))) (hT : Tries w m nm cnt) (hnm : nm.size ≤ maxLen) (ha : (Lit.int .i64 a).wf = true) (hgt : g ≠ tb) (hc : 0 ≤ cnt a ∧ cnt a < 1000) :
  Calls Tryz.prog 186 #[.pointer (some ⟨tb, 0, none⟩), wV h en tr pa mx mp now nid, .pointer (some ⟨g, 0, none⟩), placeV ⟨#[]⟩ ⟨#[]⟩ a] w fun e w' =>
   e = .returned (stepV false a nid false 0 nm ty (.slice none 0 0) (.slice none 0 0) (.slice none 0 0)) ∧ Kept [tb, m] w w' ∧ w'.heap[tb]? = some (taskO num id rp cd qn qt va vs vm gs (sends + 1) nm ty ⟨#[]⟩ now nid a) ∧ Tries w' m nm (bumped cnt a) := by
 obtain ⟨X, hX, x0, x1, x2, x3, x4⟩ := send_start h en tr pa mx now nid a mp w
 have hlt : tb < w.heap.size := (Array.getElem?_eq_some_iff.1 ht).1
 have htX := (x4.block tb hlt).trans ht
 obtain ⟨q0, q1, q2, q3, q4, q5, q6, q7, q8, q9, q10, q11, q12, q13, q14, q15, q16⟩ := cells17 htX
 have ft : ∀ k, X.frozen? ⟨tb, k, none⟩ = false := fun k => frozen_of_row X tb k _ 186 htX
 have w6 : X.cell? ⟨w.heap.size, 6, none⟩ = some (.int .i64 now) := by rw [cell_blk x0]; rfl
 have t0 : w.heap.size ≠ tb := Nat.ne_of_gt hlt
 go_enter Tryz.func186, Tryz.ntmps186
 go_wp2
 obtain ⟨Y, hY⟩ : ∃ Y, X.setCell ⟨tb, 10, none⟩ (.int .i64 (sends + 1)) = Y := ⟨_, rfl⟩
 have hYz : Y.heap.size = w.heap.size + 3 := by rw [← hY]; simp [x3]
 have hYb : ∀ k, k ≠ tb → Y.heap[k]? = X.heap[k]? := fun k hk => by rw [← hY, Below.heap_setCell _ _ _ _ hk]
 have hYt : Y.heap[tb]? = some (taskO num id rp cd qn qt va vs vm gs (sends + 1) wn wt wz at_ wi wa) := by
  have s0 := heap_setCell_same X tb 10 _ 186 (.int .i64 (sends + 1)) htX
  rw [hY] at s0
  simpa using s0
 have hYK : Kept [tb] w Y := by rw [← hY]; exact (kept_of_below x4).set (.inl (by simp)) 10 _
 have hmt : m ≠ tb := by
  obtain ⟨f, ⟨es, ck, hb, _⟩, _⟩ := hT
  rintro rfl
  rw [ht] at hb; cases hb
 have hTY : Tries Y m nm cnt := hT.same (by rw [hYb m hmt]; exact x4.block m hT.lt)
 have hgm : g ≠ m := by
  obtain ⟨f, ⟨es, ck, hb, _⟩, _⟩ := hT
  rintro rfl
  simp [World.cell?, hb] at hn
 have hwm : w.heap.size + 1 ≠ m := by have := hT.lt; omega
 have hwt : w.heap.size + 1 ≠ tb := by omega
 have hS0 : SCells w Y g m nm a Y := by
  have eg : Y.heap[g]? = w.heap[g]? := by rw [hYb g hgt]; exact x4.block g hg
  have ew : Y.heap[w.heap.size + 1]? = X.heap[w.heap.size + 1]? := hYb _ hwt
  exact ⟨(World.cell?_of_block eg).trans hm, (World.cell?_of_block eg).trans hn, by rw [World.cell?_of_block ew, cell_blk x1]; rfl, by rw [World.cell?_of_block ew, cell_blk x1]; rfl, by rw [World.cell?_of_block ew, cell_blk x1]; rfl, Kept.refl _ _⟩
 have hgY : g < Y.heap.size := by omega
 have hwY : w.heap.size + 1 < Y.heap.size := by omega
 have htyY : Y.cell? ⟨g, 2, none⟩ = some (.int .i64 ty) := by rw [World.cell?_of_block (hYb g hgt), x4.cell (p := ⟨g, 2, none⟩) hg]; exact hty
 rw [hY]
 clear hY q0 q1 q2 q3 q4 q5 q6 q7 q8 q9 q10 q11 q12 q13 q14 q15 q16 ft w6 hX
 have hwr : IntKind.i64.wrap (cnt a + 1) = cnt a + 1 := by rw [IntKind.wrap_i64]; omega
 go_cut [26] (fun s wc => SCut Y m nm cnt a s wc)
 case first =>
  refine wp_region_held_drew (S := fun w' => SCells w Y g m nm a w') (by kernel_rfl) (scells hS0 (Kept.refl _ _).drew hgY hgm hwY hwm) (fun hS => ?_)
  refine tkS (i := 0) (v := .pointer (some ⟨g, 0, none⟩)) rfl hS ?_
  refine tkS (i := 1) (v := .pointer (some ⟨g, 0, none⟩)) rfl hS ?_
  refine tkS (i := 2) (v := .pointer (some ⟨g, 4, none⟩)) rfl hS ?_
  refine tkY (i := 3) (v := .map (some m)) rfl (Or.inl ⟨by rfl, fun w' hw => by obtain ⟨h1, h2, h3, h4, h5, _⟩ := hw; go_simp⟩) hS ?_
  refine tkS (i := 4) (v := .pointer (some ⟨g, 0, none⟩)) rfl hS ?_
  refine tkY (i := 5) (v := placeV ⟨#[]⟩ ⟨#[]⟩ a) rfl (Or.inl ⟨by rfl, fun w' hw => by obtain ⟨h1, h2, h3, h4, h5, _⟩ := hw; go_simp⟩) hS ?_
  refine wpAnyH_ready (rs := [6]) (by kernel_rfl) (by simp) ?_
  refine AllReadyH.cons rfl (fun K hK => ?_) AllReadyH.nil
  go_simp
  refine (attempt_any g ⟨#[]⟩ ⟨#[]⟩ nm a _ (by exact hgY) (by exact hS.2.1)).mono ?_
  rintro e w5 ⟨rfl, hb5⟩
  have hK5 : Kept [m] Y w5 := (Kept.refl _ _).drew.trans (kept_of_below hb5)
  have hT5 : Tries w5 m nm cnt := hTY.same (hb5.block m hTY.lt)
  have hl5 := hT5.look hnm ha
  obtain ⟨v, born, o1, o2, e1, e2, e3, e4⟩ := hT5.bump hnm ha
  have hK6 : Kept [m] Y (w5.putObj m o1) := hK5.put (.inl (by simp)) o1
  have hK7 : Kept [m] Y ((w5.putObj m o1).putObj m o2) := hK6.put (.inl (by simp)) o2
  refine hK.out _ _ (scells hS0 hK5 hgY hgm hwY hwm) fun hS => ?_
  refine wpAnyH_ready (rs := [7, 9]) (by kernel_rfl) (by simp) ?_
  refine AllReadyH.cons rfl (fun K hK => ?_) (AllReadyH.cons rfl (fun K hK => ?_) AllReadyH.nil)
  ·go_simp
   refine hK.out _ _ hS fun hS => ?_
   refine tkS (i := 8) (v := .int .i64 (cnt a + 1)) rfl hS ?_
   refine wpAnyH_ready (rs := [9]) (by kernel_rfl) (by simp) ?_
   refine AllReadyH.cons rfl (fun K hK => ?_) AllReadyH.nil
   go_simp
   refine hK.out _ _ (scells hS0 hK6 hgY hgm hwY hwm) fun hS => ?_
   refine tkS (i := 10) (v := .int .i64 born) rfl hS ?_
   refine wpAnyH_ready (rs := [11]) (by kernel_rfl) (by simp) ?_
   refine AllReadyH.cons rfl (fun K hK => ?_) AllReadyH.nil
   go_simp
   refine hK.out _ _ (scells hS0 hK7 hgY hgm hwY hwm) fun hS => ?_
   refine wpAnyH_done (by kernel_rfl) ?_ _
   go_wp2_with fail
   go_meet
   exact ⟨hK7, e3⟩
  ·go_simp
   refine hK.out _ _ (scells hS0 hK6 hgY hgm hwY hwm) fun hS => ?_
   refine tkS (i := 10) (v := .int .i64 born) rfl hS ?_
   refine wpAnyH_ready (rs := [7]) (by kernel_rfl) (by simp) ?_
   refine AllReadyH.cons rfl (fun K hK => ?_) AllReadyH.nil
   go_simp
   refine hK.out _ _ hS fun hS => ?_
   refine tkS (i := 8) (v := .int .i64 (cnt a + 1)) rfl hS ?_
   refine wpAnyH_ready (rs := [11]) (by kernel_rfl) (by simp) ?_
   refine AllReadyH.cons rfl (fun K hK => ?_) AllReadyH.nil
   go_simp
   refine hK.out _ _ (scells hS0 hK7 hgY hgm hwY hwm) fun hS => ?_
   refine wpAnyH_done (by kernel_rfl) ?_ _
   go_wp2_with fail
   go_meet
   exact ⟨hK7, e3⟩
 case rest =>
  obtain ⟨hK8, hT8⟩ := hcut
  have k0 : wc.heap[w.heap.size]? = some (.cells #[h, .int .i64 en, .int .i64 tr, .int .i64 pa, .int .i64 mx, .pointer (some ⟨mp, 0, none⟩), .int .i64 now, .int .i64 nid] 122 (0, 0)) := (hK8.block _ (by omega) (by simp; have := hT.lt; omega)).trans ((hYb _ (by omega)).trans x0)
  have k1 : wc.heap[w.heap.size + 1]? = some (.cells #[.string ⟨#[]⟩, .string ⟨#[]⟩, .int .i64 a] 297 (0, 0)) := (hK8.block _ (by omega) (by simp; have := hT.lt; omega)).trans ((hYb _ (by omega)).trans x1)
  have k2 : wc.heap[w.heap.size + 1 + 1]? = _ := (hK8.block _ (by omega) (by simp; have := hT.lt; omega)).trans ((hYb _ (by omega)).trans x2)
  have kg : wc.heap[g]? = Y.heap[g]? := hK8.block g hgY (by simp; omega)
  have kt : wc.heap[tb]? = _ := (hK8.block tb (by omega) (by simp; omega)).trans hYt
  have g1 : wc.cell? ⟨g, 1, none⟩ = some (.string nm) := (World.cell?_of_block kg).trans hS0.2.1
  have g2 : wc.cell? ⟨g, 2, none⟩ = some (.int .i64 ty) := (World.cell?_of_block kg).trans htyY
  obtain ⟨u0, u1, u2, u3, u4, u5, u6, u7⟩ := cells8 k0
  have p0 : wc.cell? ⟨w.heap.size + 1, 0, none⟩ = some (.string ⟨#[]⟩) := by rw [cell_blk k1]; rfl
  have p1 : wc.cell? ⟨w.heap.size + 1, 1, none⟩ = some (.string ⟨#[]⟩) := by rw [cell_blk k1]; rfl
  have p2 : wc.cell? ⟨w.heap.size + 1, 2, none⟩ = some (.int .i64 a) := by rw [cell_blk k1]; rfl
  have hzc := hK8.size
  clear hS0 htyY kg
  have HR : Hid (∀ w9, Below wc.heap.size wc w9 → ∃ W9, w9 = W9 ∧ W9.heap[w.heap.size + 1 + 1]? = wc.heap[w.heap.size + 1 + 1]? ∧ W9.heap[tb]? = wc.heap[tb]? ∧ (W9.cell? ⟨w.heap.size + 1, 0, none⟩ = some (.string ⟨#[]⟩) ∧ W9.cell? ⟨w.heap.size + 1, 2, none⟩ = some (.int .i64 a)) ∧ (W9.cell? ⟨w.heap.size, 6, none⟩ = some (.int .i64 now) ∧ W9.cell? ⟨w.heap.size, 7, none⟩ = some (.int .i64 nid)) ∧ W9.cell? ⟨g, 1, none⟩ = some (.string nm) ∧ W9.cell? ⟨g, 2, none⟩ = some (.int .i64 ty)) := fun w9 hb9 =>
   ⟨w9, rfl, hb9.block _ (by omega), hb9.block _ (by omega), ⟨(hb9.cell (p := ⟨w.heap.size + 1, 0, none⟩) (show w.heap.size + 1 < wc.heap.size by omega)).trans p0, (hb9.cell (p := ⟨w.heap.size + 1, 2, none⟩) (show w.heap.size + 1 < wc.heap.size by omega)).trans p2⟩,
    ⟨(hb9.cell (p := ⟨w.heap.size, 6, none⟩) (show w.heap.size < wc.heap.size by omega)).trans u6, (hb9.cell (p := ⟨w.heap.size, 7, none⟩) (show w.heap.size < wc.heap.size by omega)).trans u7⟩,
    (hb9.cell (p := ⟨g, 1, none⟩) (show g < wc.heap.size by omega)).trans g1, (hb9.cell (p := ⟨g, 2, none⟩) (show g < wc.heap.size by omega)).trans g2⟩
  go_wp2_with (go_at_call 254; refine (use_root h en tr pa mx now nid a mp _).mono ?_; rintro e w9 ⟨rfl, hb9⟩; obtain ⟨W9, hW9, r2, r1, ⟨p90, p92⟩, ⟨w96, w97⟩, g91, g92⟩ := HR.out w9 hb9; rw [k2] at r2; rw [kt] at r1)
  clear u0 u1 u2 u3 u4 u5 u6 u7 p0 p1 p2 g1 g2 HR
  subst hW9
  have hz9 := hb9.size
  have n0 : w.heap.size ≠ w9.heap.size := by omega
  have n1 : w.heap.size + 1 ≠ w9.heap.size := by omega
  have n2 : w.heap.size + 1 + 1 ≠ w9.heap.size := by omega
  have n3 : tb ≠ w9.heap.size := by omega
  have n4 : g ≠ w9.heap.size := by omega
  have hA : ∀ (o : Obj) (p : Addr), p.block < w9.heap.size → (w9.alloc o).cell? p = w9.cell? p := fun o p hp => ((Below.refl w9.heap.size w9).alloc (Nat.le_refl _) o).cell hp
  have a6 : ∀ o, (w9.alloc o).cell? ⟨w.heap.size, 6, none⟩ = some (.int .i64 now) := fun o => (hA o _ (show w.heap.size < w9.heap.size by omega)).trans w96
  have a0 : ∀ o, (w9.alloc o).cell? ⟨w.heap.size + 1, 0, none⟩ = some (.string ⟨#[]⟩) := fun o => (hA o _ (show w.heap.size + 1 < w9.heap.size by omega)).trans p90
  have a1 : ∀ o, (w9.alloc o).cell? ⟨g, 1, none⟩ = some (.string nm) := fun o => (hA o _ (show g < w9.heap.size by omega)).trans g91
  have a2 : ∀ o, (w9.alloc o).cell? ⟨g, 2, none⟩ = some (.int .i64 ty) := fun o => (hA o _ (show g < w9.heap.size by omega)).trans g92
  clear hA
  go_cut [9] (fun s wc => SBox w9 nm ty now s wc)
  case first =>
   go_region
   all_goals go_wp2_with fail
   all_goals go_meet
   exact ⟨rfl, ((Below.refl _ _).alloc (Nat.le_refl _) _).drew, World.alloc_heap_new w9 _⟩
  case rest =>
   obtain ⟨rfl, hbB, hB⟩ := hcut
   have hzB := hbB.size
   have hzb : w9.heap.size < wc.heap.size := (Array.getElem?_eq_some_iff.1 hB).1
   have c0 : wc.cell? ⟨w9.heap.size, 0, none⟩ = some (.string nm) := by rw [cell_blk hB]; rfl
   have c1 : wc.cell? ⟨w9.heap.size, 1, none⟩ = some (.int .i64 ty) := by rw [cell_blk hB]; rfl
   have c2 : wc.cell? ⟨w9.heap.size, 2, none⟩ = some (.string ⟨#[]⟩) := by rw [cell_blk hB]; rfl
   have c3 : wc.cell? ⟨w9.heap.size, 3, none⟩ = some (.int .i64 now) := by rw [cell_blk hB]; rfl
   have d2 : wc.cell? ⟨w.heap.size + 1, 2, none⟩ = some (.int .i64 a) := (hbB.cell (p := ⟨w.heap.size + 1, 2, none⟩) (show w.heap.size + 1 < w9.heap.size by omega)).trans p92
   have d7 : wc.cell? ⟨w.heap.size, 7, none⟩ = some (.int .i64 nid) := (hbB.cell (p := ⟨w.heap.size, 7, none⟩) (show w.heap.size < w9.heap.size by omega)).trans w97
   have e1 : wc.cell? ⟨g, 1, none⟩ = some (.string nm) := (hbB.cell (p := ⟨g, 1, none⟩) (show g < w9.heap.size by omega)).trans g91
   have e2 : wc.cell? ⟨g, 2, none⟩ = some (.int .i64 ty) := (hbB.cell (p := ⟨g, 2, none⟩) (show g < w9.heap.size by omega)).trans g92
   have r1c := (hbB.block tb (by omega)).trans r1
   have r2c := (hbB.block (w.heap.size + 1 + 1) (by omega)).trans r2
   obtain ⟨q0, q1, q2, q3, q4, q5, q6, q7, q8, q9, q10, q11, q12, q13, q14, q15, q16⟩ := cells17 r1c
   have ft : ∀ k, wc.frozen? ⟨tb, k, none⟩ = false := fun k => frozen_of_row wc tb k _ 186 r1c
   clear q0 q1 q2 q3 q4 q5 q6 q7 q8 q9 q10
   go_wp2_with fail
   obtain ⟨Z, hZ⟩ : ∃ Z, (((((wc.setCell ⟨tb, 11, none⟩ (.string nm)).setCell ⟨tb, 12, none⟩ (.int .i64 ty)).setCell ⟨tb, 13, none⟩ (.string ⟨#[]⟩)).setCell ⟨tb, 14, none⟩ (.int .i64 now)).setCell ⟨tb, 15, none⟩ (.int .i64 nid)).setCell ⟨tb, 16, none⟩ (.int .i64 a) = Z := ⟨_, rfl⟩
   have zt : Z.heap[tb]? = some (taskO num id rp cd qn qt va vs vm gs (sends + 1) nm ty ⟨#[]⟩ now nid a) := by rw [← hZ]; exact task_waits nm ty ⟨#[]⟩ now nid a r1c
   have zo : ∀ k, k ≠ tb → Z.heap[k]? = wc.heap[k]? := fun k hk => by rw [← hZ]; exact sets6 wc hk
   have zs : Z.heap.size = wc.heap.size := by rw [← hZ]; simp
   have r2z := (zo (w.heap.size + 1 + 1) (by omega)).trans r2c
   obtain ⟨s0, s1, s2, s3, s4, s5, s6, s7, s8, s9⟩ := cells10 r2z
   have rf : ∀ k, Z.frozen? ⟨w.heap.size + 1 + 1, k, none⟩ = false := fun k => frozen_of_row Z _ k _ 178 r2z
   have f2 : Z.cell? ⟨w.heap.size + 1, 2, none⟩ = some (.int .i64 a) := (World.cell?_of_block (zo _ (by omega))).trans d2
   have f7 : Z.cell? ⟨w.heap.size, 7, none⟩ = some (.int .i64 nid) := (World.cell?_of_block (zo _ (by omega))).trans d7
   have h1 : Z.cell? ⟨g, 1, none⟩ = some (.string nm) := (World.cell?_of_block (zo _ hgt)).trans e1
   have h2 : Z.cell? ⟨g, 2, none⟩ = some (.int .i64 ty) := (World.cell?_of_block (zo _ hgt)).trans e2
   have hK9 : Kept [tb, m] w Z := by
    rw [← hZ]
    have h0 : Kept [tb, m] w wc := (((hYK.mono (by simp)).trans (hK8.mono (by simp))).trans (kept_of_below hb9)).trans (kept_of_below hbB)
    have ht' : tb ∈ [tb, m] ∨ w.heap.size ≤ tb := .inl (by simp)
    exact (((((h0.set ht' 11 _).set ht' 12 _).set ht' 13 _).set ht' 14 _).set ht' 15 _).set ht' 16 _
   have hT9 : Tries Z m nm (bumped cnt a) := hT8.same ((zo m hmt).trans ((hbB.block m (Nat.lt_of_lt_of_le hT8.lt hz9)).trans (hb9.block m hT8.lt)))
   rw [hZ]
   clear hZ c0 c1 c2 c3 d2 d7 e1 e2 q11 q12 q13 q14 q15 q16 ft w96 w97 p90 p92 g91 g92 a6 a0 a1 a2
   go_region
   all_goals go_wp2
   refine bodyPost_ret (v := stepV false a nid false 0 nm ty (.slice none 0 0) (.slice none 0 0) (.slice none 0 0)) (by simp [results, Tryz.results186, go_sem, s0, s1, s2, s3, s4, s5, s6, s7, s8, s9]) rfl ⟨rfl, ?_, ?_, ?_⟩
   ·have hin : w.heap.size + 1 + 1 ∈ [tb, m] ∨ w.heap.size ≤ w.heap.size + 1 + 1 := .inr (by omega)
    exact ((((((((((hK9.set hin 0 _).set hin 1 _).set hin 2 _).set hin 3 _).set hin 4 _).set hin 5 _).set hin 6 _).set hin 7 _).set hin 8 _).set hin 9 _).drew
   ·exact (sets10 Z (by omega)).trans zt
   ·exact hT9.same (sets10 Z (by have := hT.lt; omega))
end Go.Proofs.YtefdokkadckbbaaGreatDoor
