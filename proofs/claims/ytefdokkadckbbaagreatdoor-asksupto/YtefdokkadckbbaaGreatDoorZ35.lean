/- Tb P4 P5 Pf -/
import Derived.Test.YtefdokkadckbbaaGreatDoorZ33
import Derived.Test.YtefdokkadckbbaaGreatDoorZ34
import Derived.Test.YtefdokkadckbbaaGreatDoorZ29
import Derived.Test.YtefdokkadckbbaaGreatDoorZ25
section
namespace Go.Proofs.YtefdokkadckbbaaGreatDoor
open Go.RowKit
set_option maxRecDepth 100000
theorem top_any (b : Tb) (t : Tk) (h : Value) (hs : List Int) (en tr pa mx now nid : Int) (mp k : Nat) (w : World) (hP : PTk w b t) (ht : TkOk t k) (hM : Mem0 w mp) (hG : Good w) (hh : IntSl w h hs) (h3 : hs.length ≤ 3) (hw : ∀ a ∈ hs, (Lit.int .i64 a).wf = true) (htr : tr ≤ 3) :
  Calls Tryz.prog 136 #[.pointer (some ⟨b.tb, 0, none⟩), wV h en tr pa mx mp now nid] w fun e w' => ∃ v, e = .returned (.tuple #[v, .bool true]) ∧ StepR hs tr now nid b t w v w' := by
 cases hf : hs.find? (fun a => decide (t.cnt a < tr)) with
 | none => exact top_none b t h hs en tr pa mx now nid mp k w hP ht hM hG hh h3 hw htr hf
 | some a => exact top_some b t h hs en tr pa mx now nid mp k w hP ht hM hG hh h3 hw htr a hf
end Go.Proofs.YtefdokkadckbbaaGreatDoor
end
section
namespace Go.Proofs.YtefdokkadckbbaaGreatDoor
open Go.RowKit Go.MapKept Go.Maps
set_option maxRecDepth 100000
theorem StepR.shape {hs : List Int} {tr now nid : Int} {b : Tb} {t : Tk} {w w' : World} {v : Value} (h : StepR hs tr now nid b t w v w') : ∃ (ended : Bool) (addr id : Int) (rp : Bool) (code : Int) (nm : ByteArray) (ty : Int) (aa as_ am : Option Addr) (ca cs cm : Nat), v = stepV ended addr id rp code nm ty (.slice aa 0 ca) (.slice as_ 0 cs) (.slice am 0 cm) := by
 unfold StepR at h
 cases hx : nextS hs tr t with
 | some a => rw [hx] at h; exact ⟨_, _, _, _, _, _, _, _, _, _, _, _, _, h.1⟩
 | none => rw [hx] at h; obtain ⟨_, aa, as_, am, ca, cs, cm, h⟩ := h; exact ⟨_, _, _, _, _, _, _, _, _, _, _, _, _, h⟩
theorem StepR.from {hs : List Int} {tr now nid : Int} {b : Tb} {t : Tk} {w0 w w' : World} {v : Value} (h : StepR hs tr now nid b t w v w') (hb : Below w0.heap.size w0 w) : StepR hs tr now nid b t w0 v w' := by
 unfold StepR at h ⊢
 cases hx : nextS hs tr t with
 | some a => rw [hx] at h; exact ⟨h.1, ⟨h.2.1.os.trans hb.os, h.2.1.tape.trans hb.tape, h.2.1.output.trans hb.output, Nat.le_trans hb.size h.2.1.size, fun k hk hn => (h.2.1.block k (Nat.lt_of_lt_of_le hk hb.size) hn).trans (hb.block k hk)⟩, h.2.2⟩
 | none => rw [hx] at h; exact ⟨hb.trans (h.1.mono hb.size), h.2⟩
theorem StepR.keeps {hs : List Int} {tr now nid : Int} {b : Tb} {t : Tk} {w w' : World} {v : Value} (h : StepR hs tr now nid b t w v w') : Kept [b.tb, b.m] w w' := by
 unfold StepR at h
 cases hx : nextS hs tr t with
 | some a => rw [hx] at h; exact h.2.1
 | none => rw [hx] at h; exact kept_of_below h.1
theorem ret_step {W : World} {S : Nat} {tmps : Array Value} {R : Ending → World → Prop} {ended : Bool} {addr id : Int} {rp : Bool} {code : Int} {nm : ByteArray} {ty : Int} {va vs vm : Value} (h : W.heap[S]? = some (stepO ended addr id rp code nm ty va vs vm)) (t4 : tmps[4]? = some (.pointer (some ⟨S, 0, none⟩))) (hR : R (.returned (stepV ended addr id rp code nm ty va vs vm)) W) :
  bodyPost Tryz.prog Tryz.f100 R .ret { tmps := tmps, defers := [] } W := by
 obtain ⟨y0, y1, y2, y3, y4, y5, y6, y7, y8, y9⟩ := cells10 h
 exact bodyPost_ret (v := stepV ended addr id rp code nm ty va vs vm) (by simp [results, Tryz.results100, go_sem, y0, y1, y2, y3, y4, y5, y6, y7, y8, y9, t4]) rfl hR
set_option maxHeartbeats 4000000 in
theorem work_any (b : Tb) (t : Tk) (h : Value) (hs : List Int) (en tr pa mx now nid : Int) (mp k : Nat) (w : World) (hP : PTk w b t) (ht : TkOk t k) (hM : Mem0 w mp) (hG : Good w) (hh : IntSl w h hs) (h3 : hs.length ≤ 3) (hw : ∀ a ∈ hs, (Lit.int .i64 a).wf = true) (htr : tr ≤ 3) :
  Calls Tryz.prog 100 #[.pointer (some ⟨b.tb, 0, none⟩), wV h en tr pa mx mp now nid] w fun e w' => ∃ v, e = .returned v ∧ StepR hs tr now nid b t w v w' := by
 obtain ⟨X, hX, x0, x1, x2, x3⟩ := allocs2 w (.cells #[h, .int .i64 en, .int .i64 tr, .int .i64 pa, .int .i64 mx, .pointer (some ⟨mp, 0, none⟩), .int .i64 now, .int .i64 nid] 122) zStepO
 obtain ⟨l1, l2, l3, l4⟩ := hP.lt
 have hPX : PTk X b t := hP.same (x3.block _ l1) (x3.block _ l2) (x3.block _ l3) (x3.block _ l4)
 obtain ⟨u0, u1, u2, u3, u4, u5, u6, u7⟩ := cells8 x0
 have HT : Hid (Calls Tryz.prog 136 #[.pointer (some ⟨b.tb, 0, none⟩), wV h en tr pa mx mp now nid] X fun e w' => ∃ v, e = .returned (.tuple #[v, .bool true]) ∧ StepR hs tr now nid b t X v w') := top_any b t h hs en tr pa mx now nid mp k X hPX ht (hM.below x3) (hG.below x3) (hh.below x3) h3 hw htr
 have HC : Hid (∀ W7, Kept [b.tb, b.m] X W7 → W7.heap[w.heap.size + 1]? = some zStepO ∧ w.heap.size + 1 < W7.heap.size) := by
  intro W7 hk
  have hz := hk.size
  exact ⟨(hk.block _ (by omega) (by simp; omega)).trans x1, by omega⟩
 clear hP hM hG hh hPX
 go_enter Tryz.func100, Tryz.ntmps100
 go_wp2_with fail
 refine wp_loop_rounds 1 ?_
 rw [rounds_succ]
 go_upto_region 3 with (go_at_call 136; refine HT.out.mono ?_; rintro e w7 ⟨v, rfl, hR⟩; obtain ⟨ended, addr, id, rp, code, nm, ty, aa, as_, am, ca, cs, cm, rfl⟩ := hR.shape)
 obtain ⟨d2, hz7⟩ := HC.out w7 hR.keeps
 obtain ⟨W8, hW8⟩ : ∃ W8, w7.alloc (stepO ended addr id rp code nm ty (.slice aa 0 ca) (.slice as_ 0 cs) (.slice am 0 cm)) = W8 := ⟨_, rfl⟩
 have hb8 : Below w7.heap.size w7 W8 := by rw [← hW8]; exact (Below.refl _ _).alloc (Nat.le_refl _) _
 have e8 : W8.heap[w7.heap.size]? = some (stepO ended addr id rp code nm ty (.slice aa 0 ca) (.slice as_ 0 cs) (.slice am 0 cm)) := by rw [← hW8]; exact World.alloc_heap_new w7 _
 have d8 := (hb8.block _ hz7).trans d2
 obtain ⟨f0, f1, f2, f3, f4, f5, f6, f7, f8, f9⟩ := cells10 d8
 obtain ⟨k0, k1, k2, k3, k4, k5, k6, k7, k8, k9⟩ := cells10 e8
 have ff : ∀ k, W8.frozen? ⟨w.heap.size + 1, k, none⟩ = false := fun k => frozen_of_row W8 _ k _ 178 d8
 rw [hW8]
 clear hW8
 go_wp2
 refine ret_step (S := w.heap.size + 1) (ended := ended) (addr := addr) (id := id) (rp := rp) (code := code) (nm := nm) (ty := ty) (va := .slice aa 0 ca) (vs := .slice as_ 0 cs) (vm := .slice am 0 cm) (step_set ended addr id rp code nm ty _ _ _ d8) rfl ⟨_, rfl, ?_⟩
 have hin : w.heap.size ≤ w.heap.size + 1 := Nat.le_succ _
 refine (hR.from x3).low (B := w.heap.size) ?_ (Nat.le_refl _) ⟨l1, l2, l3, l4⟩
 exact ((((((((((((hb8.mono (by omega)).set hin 0 _).set hin 1 _).set hin 2 _).set hin 3 _).set hin 4 _).set hin 5 _).set hin 6 _).set hin 7 _).set hin 8 _).set hin 9 _))
end Go.Proofs.YtefdokkadckbbaaGreatDoor
end
section
namespace Go.Proofs.YtefdokkadckbbaaGreatDoor
open Go.RowKit Go.MapKept Go.Maps
set_option maxRecDepth 100000
theorem work_send (b : Tb) (t : Tk) (h : Value) (hs : List Int) (en tr pa mx now nid a : Int) (mp k : Nat) (w : World) (hP : PTk w b t) (ht : TkOk t k) (hM : Mem0 w mp) (hG : Good w) (hh : IntSl w h hs) (h3 : hs.length ≤ 3) (hw : ∀ a ∈ hs, (Lit.int .i64 a).wf = true) (htr : tr ≤ 3) (hx : nextS hs tr t = some a) :
  Calls Tryz.prog 100 #[.pointer (some ⟨b.tb, 0, none⟩), wV h en tr pa mx mp now nid] w fun e w' => e = .returned (stepV false a nid false 0 t.nm t.ty (.slice none 0 0) (.slice none 0 0) (.slice none 0 0)) ∧ Kept [b.tb, b.m] w w' ∧ PTk w' b (triedS now t a) :=
 (work_any b t h hs en tr pa mx now nid mp k w hP ht hM hG hh h3 hw htr).mono fun e w' ⟨v, he, hR⟩ => by
  unfold StepR at hR
  rw [hx] at hR
  exact ⟨by rw [he, hR.1], hR.2⟩
theorem work_end (b : Tb) (t : Tk) (h : Value) (hs : List Int) (en tr pa mx now nid : Int) (mp k : Nat) (w : World) (hP : PTk w b t) (ht : TkOk t k) (hM : Mem0 w mp) (hG : Good w) (hh : IntSl w h hs) (h3 : hs.length ≤ 3) (hw : ∀ a ∈ hs, (Lit.int .i64 a).wf = true) (htr : tr ≤ 3) (hx : nextS hs tr t = none) :
  Calls Tryz.prog 100 #[.pointer (some ⟨b.tb, 0, none⟩), wV h en tr pa mx mp now nid] w fun e w' => (∃ (aa as_ am : Option Addr) (ca cs cm : Nat), e = .returned (stepV true 0 t.id true 2 t.nm t.ty (.slice aa 0 ca) (.slice as_ 0 cs) (.slice am 0 cm))) ∧ Below w.heap.size w w' :=
 (work_any b t h hs en tr pa mx now nid mp k w hP ht hM hG hh h3 hw htr).mono fun e w' ⟨v, he, hR⟩ => by
  unfold StepR at hR
  rw [hx] at hR
  obtain ⟨h1, aa, as_, am, ca, cs, cm, h2⟩ := hR
  exact ⟨⟨aa, as_, am, ca, cs, cm, by rw [he, h2]⟩, h1⟩
theorem cells12 {W : World} {b : Nat} {t : TypeId} {v0 v1 v2 v3 v4 v5 v6 v7 v8 v9 v10 v11 : Value} (h : W.heap[b]? = some (.cells #[v0, v1, v2, v3, v4, v5, v6, v7, v8, v9, v10, v11] t (0, 0))) :
  W.cell? ⟨b, 0, none⟩ = some v0 ∧ W.cell? ⟨b, 1, none⟩ = some v1 ∧ W.cell? ⟨b, 2, none⟩ = some v2 ∧ W.cell? ⟨b, 3, none⟩ = some v3 ∧ W.cell? ⟨b, 4, none⟩ = some v4 ∧ W.cell? ⟨b, 5, none⟩ = some v5 ∧ W.cell? ⟨b, 6, none⟩ = some v6 ∧ W.cell? ⟨b, 7, none⟩ = some v7 ∧ W.cell? ⟨b, 8, none⟩ = some v8 ∧ W.cell? ⟨b, 9, none⟩ = some v9 ∧ W.cell? ⟨b, 10, none⟩ = some v10 ∧ W.cell? ⟨b, 11, none⟩ = some v11 := by
 refine ⟨?_, ?_, ?_, ?_, ?_, ?_, ?_, ?_, ?_, ?_, ?_, ?_⟩ <;> (rw [cell_blk h]; rfl)
theorem hint_wf {s : Rs} {k n : Nat} (h : RsOk s k n) : ∀ a ∈ s.hs, (Lit.int .i64 a).wf = true := fun a ha => wf_size (by have := h.hint a ha; omega) (by have := h.hint a ha; omega)
theorem own_val {W : World} {e n : Nat} {v : Value} {xs : List Value} {sz : Nat} (h : W.ownsRow 0 e sz v n xs) : ∃ a c, v = .slice a n c := by
 rcases h.2 with ⟨h1, h2⟩ | ⟨g, cap, cur, h1, _⟩
 ·exact ⟨none, 0, by rw [h1, h2]⟩
 ·exact ⟨_, _, h1⟩
theorem PRc.world {W : World} {F : Nat → Prop} {x : Nat} {s : Rs} {vt : Value} (h : PRc W F x s vt) : ∃ (hb hc mp : Nat) (av ar : Option Addr) (cv cr : Nat), W.heap[x]? = some (resO (.slice (some ⟨hb, 0, none⟩) s.hs.length hc) s.en s.tr s.pa s.mx mp s.now s.nid vt s.asked (.slice av s.sent.length cv) (.slice ar s.replies.length cr)) ∧ IntSl W (.slice (some ⟨hb, 0, none⟩) s.hs.length hc) s.hs ∧ Mem0 W mp ∧
  W.ownsRow 0 105 2 (.slice av s.sent.length cv) s.sent.length (pcells s.sent) ∧ (∀ k, (Value.slice av s.sent.length cv).ownBlock = some k → F k) ∧ W.ownsRow 0 66 2 (.slice ar s.replies.length cr) s.replies.length (pcells s.replies) ∧ (∀ k, (Value.slice ar s.replies.length cr).ownBlock = some k → F k) ∧
  (∀ (W' : World) (F' : Nat → Prop) (nid' asked' now' : Int) (vt' vs' vr' : Value) (sent' replies' : List (Int × ByteArray)) (tasks' : List Tk), W.heap.size ≤ W'.heap.size → (∀ k, F k → k ≠ x → (Value.slice av s.sent.length cv).ownBlock ≠ some k → (Value.slice ar s.replies.length cr).ownBlock ≠ some k → W'.heap[k]? = W.heap[k]?) → (∀ k, F k → F' k) → (∀ k, F' k → k < W'.heap.size) → ¬ F' 0 →
   W'.heap[x]? = some (resO (.slice (some ⟨hb, 0, none⟩) s.hs.length hc) s.en s.tr s.pa s.mx mp now' nid' vt' asked' vs' vr') → W'.ownsRow 0 105 2 vs' sent'.length (pcells sent') → (∀ k, vs'.ownBlock = some k → F' k) → W'.ownsRow 0 66 2 vr' replies'.length (pcells replies') → (∀ k, vr'.ownBlock = some k → F' k) →
   PRc W' F' x { s with now := now', nid := nid', asked := asked', sent := sent', replies := replies', tasks := tasks' } vt') := by
 obtain ⟨⟨hb, hc, mp, mm, vs, vr, h1, ⟨h2, h3, cur, h4, h5⟩, ⟨h6, h7, ⟨room, uses, h8⟩, h9⟩, ⟨h12, h13⟩, ⟨h14, h15⟩⟩, ho, hl, h0⟩ := h
 obtain ⟨av, cv, rfl⟩ := own_val h12
 obtain ⟨ar, cr, rfl⟩ := own_val h14
 refine ⟨hb, hc, mp, av, ar, cv, cr, h1, ⟨hb, hc, rfl, hl _ h2, h3, fun j a hj => by rw [cell_blk h4]; exact h5 j a hj⟩, ⟨mm, by rw [cell_blk h8]; rfl, h9, hl _ h6⟩, h12, h13, h14, h15, ?_⟩
 intro W' F' nid' asked' now' vt' vs' vr' sent' replies' tasks' hs hk hF hl' h0' hx hv1 hv2 hr1 hr2
 have k3 : W'.heap[hb]? = W.heap[hb]? := hk hb h2 (kind_ne h4 h1 (by decide)) (fun e => own_far h12 h4 (by decide) e.symm) (fun e => own_far h14 h4 (by decide) e.symm)
 have k8 : W'.heap[mp]? = W.heap[mp]? := hk mp h6 (kind_ne h8 h1 (by decide)) (fun e => own_far h12 h8 (by decide) e.symm) (fun e => own_far h14 h8 (by decide) e.symm)
 have k9 : W'.heap[mm]? = W.heap[mm]? := by
  obtain ⟨es, ck, hm, _⟩ := h9
  refine hk mm h7 ?_ ?_ ?_
  ·rintro rfl; rw [h1] at hm; cases hm
  ·intro e; obtain ⟨cur', hc'⟩ := own_blk h12 e; rw [hm] at hc'; cases hc'
  ·intro e; obtain ⟨cur', hc'⟩ := own_blk h14 e; rw [hm] at hc'; cases hc'
 exact ⟨⟨hb, hc, mp, mm, vs', vr', hx, ⟨hF _ h2, h3, cur, k3.trans h4, h5⟩, ⟨hF _ h6, hF _ h7, ⟨room, uses, k8.trans h8⟩, h9.same k9⟩, ⟨hv1, hv2⟩, ⟨hr1, hr2⟩⟩, hF _ ho, hl', h0'⟩
set_option maxHeartbeats 4000000 in
theorem rwork_send (x : Nat) (F : Nat → Prop) (s : Rs) (vt : Value) (b : Tb) (t : Tk) (k n : Nat) (a : Int) (w : World) (hC : PRc w F x s vt) (hP : PTk w b t) (hd : ¬ F b.tb ∧ ¬ F b.gb ∧ ¬ F b.g ∧ ¬ F b.m) (hs : RsOk s k n) (ht : TkOk t k) (hG : Good w) (h0 : b.tb ≠ 0 ∧ b.m ≠ 0) (hn : n ≤ 33554432) (hx : nextS s.hs s.tr t = some a) :
  Calls Tryz.prog 54 #[.pointer (some ⟨x, 0, none⟩), .pointer (some ⟨b.tb, 0, none⟩)] w fun e w' => e = .returned (.bool true) ∧ ∃ F', PRc w' F' x (workS s t).1 vt ∧ PTk w' b (triedS s.now t a) ∧ Keeps (fun j => F j ∨ j = b.tb ∨ j = b.m) w w' ∧ (∀ j, F j → F' j) ∧ (∀ j, F' j → F j ∨ w.heap.size ≤ j) := by
 have hnx := hx
 obtain ⟨hb, hc, mp, av, ar, cv, cr, hX, hI, hM, hv, hvF, hr, hrF, HB⟩ := hC.world
 obtain ⟨l1, l2, l3, l4⟩ := hP.lt
 have lx := hC.lt x hC.own
 obtain ⟨c0, c1, c2, c3, c4, c5, c6, c7, _⟩ := cells12 hX
 have HW : Hid (Calls Tryz.prog 100 #[.pointer (some ⟨b.tb, 0, none⟩), wV (.slice (some ⟨hb, 0, none⟩) s.hs.length hc) s.en s.tr s.pa s.mx mp s.now s.nid] w fun e w' => e = .returned (stepV false a s.nid false 0 t.nm t.ty (.slice none 0 0) (.slice none 0 0) (.slice none 0 0)) ∧ Kept [b.tb, b.m] w w' ∧ PTk w' b (triedS s.now t a)) := work_send b t _ s.hs s.en s.tr s.pa s.mx s.now s.nid a mp k w hP ht hM hG hI hs.hs.2 (hint_wf hs) hs.tr.2 hnx
 go_enter Tryz.func54, Tryz.ntmps54
 go_upto_region 2 with (go_at_call 100; refine HW.out.mono ?_; rintro e w1 ⟨rfl, hk1, hP1⟩)
 obtain ⟨W2, hW2⟩ : ∃ W2, w1.alloc (stepO false a s.nid false 0 t.nm t.ty (.slice none 0 0) (.slice none 0 0) (.slice none 0 0)) = W2 := ⟨_, rfl⟩
 have hz1 := hk1.size
 have hb2 : Below w1.heap.size w1 W2 := by rw [← hW2]; exact (Below.refl _ _).alloc (Nat.le_refl _) _
 have e2 : W2.heap[w1.heap.size]? = some (stepO false a s.nid false 0 t.nm t.ty (.slice none 0 0) (.slice none 0 0) (.slice none 0 0)) := by rw [← hW2]; exact World.alloc_heap_new w1 _
 have hxt : x ≠ b.tb ∧ x ≠ b.m := ⟨fun e => hd.1 (e ▸ hC.own), fun e => hd.2.2.2 (e ▸ hC.own)⟩
 have hX2 := (hb2.block x (by omega)).trans ((hk1.block x lx (by simp; exact hxt)).trans hX)
 have hkF : ∀ j, F j → W2.heap[j]? = w.heap[j]? := fun j hj => by
  have := hC.lt j hj
  exact (hb2.block j (by omega)).trans (hk1.block j this (by simp; exact ⟨fun e => hd.1 (e ▸ hj), fun e => hd.2.2.2 (e ▸ hj)⟩))
 have hv2 := own_same hv fun j e => hkF j (hvF j e)
 have hr2 := own_same hr fun j e => hkF j (hrF j e)
 have hG2 : Good W2 := (((keeps_of_kept (F := fun j => j = b.tb ∨ j = b.m) hk1 (by simp)).good hG (by rintro (h | h); exact h0.1 h.symm; exact h0.2 h.symm))).below hb2
 have HS : Hid (Calls Tryz.prog 101 #[.pointer (some ⟨x, 0, none⟩), .int .i64 a, .agg #[.int .i64 s.nid, .bool false, .int .i64 0, .string t.nm, .int .i64 t.ty, .slice none 0 0, .slice none 0 0, .slice none 0 0]] W2 fun e w' => e = .returned (.tuple #[]) ∧ ∃ g c,
   w'.heap[x]? = some (resO (.slice (some ⟨hb, 0, none⟩) s.hs.length hc) s.en s.tr s.pa s.mx mp s.now ((s.nid + 1) % 65536) vt s.asked (.slice (some ⟨g, 0, none⟩) (s.sent.length + 1) c) (.slice ar s.replies.length cr)) ∧ w'.ownsRow 0 105 2 (.slice (some ⟨g, 0, none⟩) (s.sent.length + 1) c) (s.sent.length + 1) (pcells (s.sent ++ [(a, qB s.nid t.nm t.ty)])) ∧
   Keeps (fun k => k = x ∨ (Value.slice av s.sent.length cv).ownBlock = some k) W2 w' ∧ ((Value.slice av s.sent.length cv).ownBlock = some g ∨ W2.heap.size ≤ g)) :=
  rsend_any x mp _ _ _ _ _ _ _ _ _ _ av cv s.sent s.nid a t.nm t.ty W2 hX2 hv2 hG2 (fun e => hC.zero (e ▸ hC.own)) (fun e => hC.zero (hvF 0 e)) hs.nid (by have := nameOk_size _ ht.nm; rw [tl_length] at this; omega) (by have := hs.sent; omega)
 obtain ⟨f0, f1, f2, f3, f4, f5, f6, f7, f8, f9⟩ := cells10 e2
 have HK : Hid (∀ w3, Keeps (fun k => k = x ∨ (Value.slice av s.sent.length cv).ownBlock = some k) W2 w3 → w3.cell? ⟨w1.heap.size, 0, none⟩ = some (.bool false)) := fun w3 hk3 => by
  have : w3.heap[w1.heap.size]? = _ := (hk3.block _ (Array.getElem?_eq_some_iff.1 e2).1 (by rintro (h | h); omega; have := (hv.lt _ h).2; omega)).trans e2
  exact (cells10 this).1
 rw [hW2]
 clear hW2 c0 c1 c2 c3 c4 c5 c6 c7
 go_wp2_with (go_at_call 101; refine HS.out.mono ?_; rintro e w3 ⟨rfl, g, c, hX3, hv3, hk3, hg3⟩; have b0 := HK.out w3 hk3)
 go_ret
 have hz2 := hb2.size
 have hz3 := hk3.size
 have hgl : g < w3.heap.size := (hv3.lt g rfl).2
 have hvr : ∀ j, (Value.slice av s.sent.length cv).ownBlock = some j → (Value.slice ar s.replies.length cr).ownBlock ≠ some j := fun j e e' => by
  obtain ⟨c1, h1⟩ := own_blk hv e
  obtain ⟨c2, h2⟩ := own_blk hr e'
  exact kind_ne h1 h2 (by decide) rfl
 have hrx : ∀ j, (Value.slice ar s.replies.length cr).ownBlock = some j → j ≠ x := fun j e => by rintro rfl; exact own_far hr hX (by decide) e.symm
 have hw : workS s t = ({ s with nid := (s.nid + 1) % 65536, sent := s.sent ++ [(a, qB s.nid t.nm t.ty)] }, [triedS s.now t a]) := by unfold workS; rw [hnx]
 refine ⟨rfl, fun j => F j ∨ j = g, ?_, ?_, ?_, fun j hj => .inl hj, ?_⟩
 ·rw [hw]
  refine HB w3 _ _ s.asked s.now vt _ _ _ s.replies s.tasks (by omega) ?_ (fun j hj => .inl hj) ?_ ?_ hX3 (by simpa using hv3) (fun j e => by simp [Value.ownBlock] at e; exact .inr e.symm) ?_ (fun j e => .inl (hrF j e))
  ·intro j hj hjx hjv _
   exact (hk3.block j (by have := hC.lt j hj; omega) (by rintro (h | h); exact hjx h; exact hjv h)).trans (hkF j hj)
  ·rintro j (hj | rfl)
   ·have := hC.lt j hj; omega
   ·exact hgl
  ·rintro (h | h)
   ·exact hC.zero h
   ·rcases hg3 with h' | h'
    ·exact hC.zero (hvF 0 (h ▸ h'))
    ·omega
  ·exact own_same hr2 fun j e => hk3.block j (hr2.lt j e).2 (by rintro (h | h); exact hrx j e h; exact hvr j h e)
 ·obtain ⟨m1, m2, m3, m4⟩ := hP1.lt
  have hoff : ∀ j, ¬ F j → j < W2.heap.size → w3.heap[j]? = W2.heap[j]? := fun j hj hl => hk3.block j hl (by rintro (h | h); exact hj (h ▸ hC.own); exact hj (hvF j h))
  exact hP1.same ((hoff _ hd.1 (by omega)).trans (hb2.block _ m1)) ((hoff _ hd.2.1 (by omega)).trans (hb2.block _ m2)) ((hoff _ hd.2.2.1 (by omega)).trans (hb2.block _ m3)) ((hoff _ hd.2.2.2 (by omega)).trans (hb2.block _ m4))
 ·refine ((keeps_of_kept (F := fun j => F j ∨ j = b.tb ∨ j = b.m) hk1 (by simp)).below hb2).then hk3 ?_
  rintro j (h | h)
  ·exact .inl (.inl (h ▸ hC.own))
  ·exact .inl (.inl (hvF j h))
 ·rintro j (hj | rfl)
  ·exact .inl hj
  ·rcases hg3 with h' | h'
   ·exact .inl (hvF _ h')
   ·exact .inr (by omega)
end Go.Proofs.YtefdokkadckbbaaGreatDoor
end
section
namespace Go.Proofs.YtefdokkadckbbaaGreatDoor
open Go.RowKit Go.MapKept Go.Maps
set_option maxRecDepth 100000
set_option maxHeartbeats 2000000 in
theorem tailR_any (v : Value) (L : List (Int × ByteArray)) (f : Int) (w : World) (hv : w.ownsRow 0 66 2 v L.length (pcells L)) (hL : L.length ≤ 33554432) :
  Calls Tryz.prog 56 #[v, .int .i64 f] w fun e w' => ∃ v', e = .returned v' ∧ w'.ownsRow w.heap.size 66 2 v' (L.drop (cutN f L.length)).length (pcells (L.drop (cutN f L.length))) ∧ Below w.heap.size w w' := by
 obtain ⟨i0, hi0, hz0, hz1, hz2⟩ := info_parts infoR
 have hu63 := u63
 have hc := cutN_le f L.length
 obtain ⟨c, hcut⟩ : ∃ c, c = cutN f L.length := ⟨_, rfl⟩
 have hmm : min (max f 0) (L.length : Int) = (c : Int) := by rw [hcut]; exact cutN_val f L.length
 rw [← hcut] at hc ⊢
 have hdl : (pcells (L.drop c)).length = (L.length - c) * 2 := by rw [pcells_length, List.length_drop]
 have HD : Hid (c = cutN f L.length) := hcut
 clear hcut
 rcases hv.2 with ⟨rfl, h0⟩ | ⟨g, cap, cur, rfl, _, hg, hnc, hcm, hcs, htake⟩
 ·have hl0 : L = [] := List.eq_nil_of_length_eq_zero h0
  subst hl0
  obtain rfl : c = 0 := by simpa using hc
  clear hmm
  have hm2 : min (max f 0) 0 = 0 := by omega
  go_enter Tryz.func56, Tryz.ntmps56
  go_wp2_with (first
   | (at_builtin; refine wpList_append_own_none rfl (.const (.slice none 0 0)) (.tmp 12) 63 rfl w.heap.size 66 i0 2 hu63 hi0 _ 0 [] rfl (World.ownsRow_nil _ _ _ _) rfl ?_))
  go_ret
  exact ⟨_, rfl, World.ownsRow_nil _ _ _ _, Below.refl _ _⟩
 ·have hcell : Hid (∀ j u, (pcells (L.drop c))[j]? = some u → w.cell? ((⟨g, c * 2, none⟩ : Addr).add j) = some u) := by
   intro j u hu
   rw [pcells_drop, List.getElem?_drop] at hu
   have := hv.cells (g := g) rfl _ u hu
   rw [Addr.add_lit] at this ⊢; simpa using this
  have HE : Hid (∀ v' w', w'.ownsRow w.heap.size 66 2 v' (L.length - c) (pcells (L.drop c)) → w.grownBy w' (Value.slice none 0 0).ownBlock → w'.ownsRow w.heap.size 66 2 v' (L.drop c).length (pcells (L.drop c)) ∧ Below w.heap.size w w') := by
   intro v' w' h1 h2
   refine ⟨by simpa using h1, h2.os, h2.tape, h2.output, h2.size, fun k hk => h2.block k hk (by simp [Value.ownBlock])⟩
  have hlen : (pcells (L.drop c)).length = (L.length - c) * 2 := hdl
  have h63 : 0 + (L.length - c) ≤ maxLen := by unfold maxLen; omega
  have hby : (0 + (L.length - c)) * 24 ≤ 140737488355328 := by omega
  clear hg hcs htake hv
  by_cases hlt : c < L.length
  ·have hne : ¬ cap = c := by omega
   go_enter Tryz.func56, Tryz.ntmps56
   go_wp2_with (first
    | (at_builtin; refine wpList_append_own _ rfl (.const (.slice none 0 0)) (.tmp 12) 63 rfl w.heap.size 66 i0 (.agg #[.int .i64 0, .string ByteArray.empty]) 2 24 hu63 hi0 hz0 hz1 hz2 rfl (by decide) _ 0 [] rfl (World.ownsRow_nil _ _ _ _) _ _ _ (pcells (L.drop c)) rfl hlen hcell.out (pcells_one _) h63 hby (Nat.le_refl _) ?_))
   intro v' w' h1 h2 _
   go_wp2
   go_ret
   exact ⟨v', rfl, HE.out v' w' h1 h2⟩
  ·obtain rfl : c = L.length := by omega
   have hd : L.drop L.length = [] := by simp
   rw [hd] at *
   have hnews : ∀ (ad : Addr) j u, ([] : List Value)[j]? = some u → w.cell? (ad.add j) = some u := fun _ j u h => by simp at h
   have hl0 : ([] : List Value).length = 0 * 2 := rfl
   have hE : Hid (∀ v' w', w'.ownsRow w.heap.size 66 2 v' 0 [] → w.grownBy w' (Value.slice none 0 0).ownBlock → w'.ownsRow w.heap.size 66 2 v' 0 (pcells []) ∧ Below w.heap.size w w') := by
    intro v' w' h1 h2
    exact ⟨h1, h2.os, h2.tape, h2.output, h2.size, fun k hk => h2.block k hk (by simp [Value.ownBlock])⟩
   clear hcell HE hlen hdl hlt hc h63 hby
   by_cases hcc : cap = L.length
   ·subst hcc
    go_enter Tryz.func56, Tryz.ntmps56
    go_wp2_with (first
     | (at_builtin; refine wpList_append_own _ rfl (.const (.slice none 0 0)) (.tmp 12) 63 rfl w.heap.size 66 i0 (.agg #[.int .i64 0, .string ByteArray.empty]) 2 24 hu63 hi0 hz0 hz1 hz2 rfl (by decide) _ 0 [] rfl (World.ownsRow_nil _ _ _ _) _ 0 _ [] rfl hl0 (hnews _) (by simp) (by decide) (by decide) (Nat.le_refl _) ?_))
    intro v' w' h1 h2 _
    go_wp2
    go_ret
    exact ⟨v', rfl, hE.out v' w' h1 h2⟩
   ·go_enter Tryz.func56, Tryz.ntmps56
    go_wp2_with (first
     | (at_builtin; refine wpList_append_own _ rfl (.const (.slice none 0 0)) (.tmp 12) 63 rfl w.heap.size 66 i0 (.agg #[.int .i64 0, .string ByteArray.empty]) 2 24 hu63 hi0 hz0 hz1 hz2 rfl (by decide) _ 0 [] rfl (World.ownsRow_nil _ _ _ _) _ 0 _ [] rfl hl0 (hnews _) (by simp) (by decide) (by decide) (Nat.le_refl _) ?_))
    intro v' w' h1 h2 _
    go_wp2
    go_ret
    exact ⟨v', rfl, hE.out v' w' h1 h2⟩
set_option maxHeartbeats 2000000 in
theorem tailI_any (v : Value) (L : List Int) (f : Int) (w : World) (hv : w.ownsRow 0 3 1 v L.length (icells L)) (hL : L.length ≤ 33554432) :
  Calls Tryz.prog 61 #[v, .int .i64 f] w fun e w' => ∃ v', e = .returned v' ∧ w'.ownsRow w.heap.size 3 1 v' (L.drop (cutN f L.length)).length (icells (L.drop (cutN f L.length))) ∧ Below w.heap.size w w' := by
 obtain ⟨i0, hi0, hz0, hz1, hz2⟩ := info_parts info3
 have hu28 := u28
 have hc := cutN_le f L.length
 obtain ⟨c, hcut⟩ : ∃ c, c = cutN f L.length := ⟨_, rfl⟩
 have hmm : min (max f 0) (L.length : Int) = (c : Int) := by rw [hcut]; exact cutN_val f L.length
 rw [← hcut] at hc ⊢
 have hdl : (icells (L.drop c)).length = (L.length - c) * 1 := by rw [icells_length, List.length_drop]
 have HD : Hid (c = cutN f L.length) := hcut
 clear hcut
 rcases hv.2 with ⟨rfl, h0⟩ | ⟨g, cap, cur, rfl, _, hg, hnc, hcm, hcs, htake⟩
 ·have hl0 : L = [] := List.eq_nil_of_length_eq_zero h0
  subst hl0
  obtain rfl : c = 0 := by simpa using hc
  clear hmm
  have hm2 : min (max f 0) 0 = 0 := by omega
  go_enter Tryz.func61, Tryz.ntmps61
  go_wp2_with (first
   | (at_builtin; refine wpList_append_own_none rfl (.const (.slice none 0 0)) (.tmp 12) 28 rfl w.heap.size 3 i0 1 hu28 hi0 _ 0 [] rfl (World.ownsRow_nil _ _ _ _) rfl ?_))
  go_ret
  exact ⟨_, rfl, World.ownsRow_nil _ _ _ _, Below.refl _ _⟩
 ·have hcell : Hid (∀ j u, (icells (L.drop c))[j]? = some u → w.cell? ((⟨g, c, none⟩ : Addr).add j) = some u) := by
   intro j u hu
   rw [icells_drop, List.getElem?_drop] at hu
   have := hv.cells (g := g) rfl _ u hu
   rw [Addr.add_lit] at this ⊢; simpa using this
  have HE : Hid (∀ v' w', w'.ownsRow w.heap.size 3 1 v' (L.length - c) (icells (L.drop c)) → w.grownBy w' (Value.slice none 0 0).ownBlock → w'.ownsRow w.heap.size 3 1 v' (L.drop c).length (icells (L.drop c)) ∧ Below w.heap.size w w') := by
   intro v' w' h1 h2
   refine ⟨by simpa using h1, h2.os, h2.tape, h2.output, h2.size, fun k hk => h2.block k hk (by simp [Value.ownBlock])⟩
  have hlen : (icells (L.drop c)).length = (L.length - c) * 1 := hdl
  have h63 : 0 + (L.length - c) ≤ maxLen := by unfold maxLen; omega
  have hby : (0 + (L.length - c)) * 8 ≤ 140737488355328 := by omega
  clear hg hcs htake hv
  by_cases hlt : c < L.length
  ·have hne : ¬ cap = c := by omega
   go_enter Tryz.func61, Tryz.ntmps61
   go_wp2_with (first
    | (at_builtin; refine wpList_append_own _ rfl (.const (.slice none 0 0)) (.tmp 12) 28 rfl w.heap.size 3 i0 (.int .i64 0) 1 8 hu28 hi0 hz0 hz1 hz2 rfl (by decide) _ 0 [] rfl (World.ownsRow_nil _ _ _ _) _ _ _ (icells (L.drop c)) rfl hlen hcell.out (icells_one _) h63 hby (Nat.le_refl _) ?_))
   intro v' w' h1 h2 _
   go_wp2
   go_ret
   exact ⟨v', rfl, HE.out v' w' h1 h2⟩
  ·obtain rfl : c = L.length := by omega
   have hd : L.drop L.length = [] := by simp
   rw [hd] at *
   have hnews : ∀ (ad : Addr) j u, ([] : List Value)[j]? = some u → w.cell? (ad.add j) = some u := fun _ j u h => by simp at h
   have hl0 : ([] : List Value).length = 0 * 1 := rfl
   have hE : Hid (∀ v' w', w'.ownsRow w.heap.size 3 1 v' 0 [] → w.grownBy w' (Value.slice none 0 0).ownBlock → w'.ownsRow w.heap.size 3 1 v' 0 (icells []) ∧ Below w.heap.size w w') := by
    intro v' w' h1 h2
    exact ⟨h1, h2.os, h2.tape, h2.output, h2.size, fun k hk => h2.block k hk (by simp [Value.ownBlock])⟩
   clear hcell HE hlen hdl hlt hc h63 hby
   by_cases hcc : cap = L.length
   ·subst hcc
    go_enter Tryz.func61, Tryz.ntmps61
    go_wp2_with (first
     | (at_builtin; refine wpList_append_own _ rfl (.const (.slice none 0 0)) (.tmp 12) 28 rfl w.heap.size 3 i0 (.int .i64 0) 1 8 hu28 hi0 hz0 hz1 hz2 rfl (by decide) _ 0 [] rfl (World.ownsRow_nil _ _ _ _) _ 0 _ [] rfl hl0 (hnews _) (by simp) (by decide) (by decide) (Nat.le_refl _) ?_))
    intro v' w' h1 h2 _
    go_wp2
    go_ret
    exact ⟨v', rfl, hE.out v' w' h1 h2⟩
   ·go_enter Tryz.func61, Tryz.ntmps61
    go_wp2_with (first
     | (at_builtin; refine wpList_append_own _ rfl (.const (.slice none 0 0)) (.tmp 12) 28 rfl w.heap.size 3 i0 (.int .i64 0) 1 8 hu28 hi0 hz0 hz1 hz2 rfl (by decide) _ 0 [] rfl (World.ownsRow_nil _ _ _ _) _ 0 _ [] rfl hl0 (hnews _) (by simp) (by decide) (by decide) (Nat.le_refl _) ?_))
    intro v' w' h1 h2 _
    go_wp2
    go_ret
    exact ⟨v', rfl, hE.out v' w' h1 h2⟩
set_option maxHeartbeats 2000000 in
theorem sent_any (x : Nat) (F : Nat → Prop) (s : Rs) (k n : Nat) (f : Int) (w : World) (hR : PRs w F x s) (hs : RsOk s k n) (hn : n ≤ 33554432) :
  Calls Tryz.prog 24 #[.pointer (some ⟨x, 0, none⟩), .int .i64 f] w fun e w' => ∃ v', e = .returned v' ∧ w'.ownsRow w.heap.size 105 2 v' (s.sent.drop (cutN f s.sent.length)).length (pcells (s.sent.drop (cutN f s.sent.length))) ∧ Below w.heap.size w w' := by
 obtain ⟨C, G, vt, bs, hC, hT, hCG, hF⟩ := hR.ex
 obtain ⟨hb, hc, mp, av, ar, cv, cr, hX, _, _, hv, hvF, hr, hrF, HB⟩ := hC.world
 have x10 : w.cell? ⟨x, 10, none⟩ = some (.slice av s.sent.length cv) := by rw [cell_blk hX]; rfl
 have HT : Hid (Calls Tryz.prog 55 #[.slice av s.sent.length cv, .int .i64 f] w fun e w' => ∃ v', e = .returned v' ∧ w'.ownsRow w.heap.size 105 2 v' (s.sent.drop (cutN f s.sent.length)).length (pcells (s.sent.drop (cutN f s.sent.length))) ∧ Below w.heap.size w w') := tailP_any _ _ f w hv (by have := hs.sent; omega)
 clear HB hr hX hv hC hT
 go_enter Tryz.func24, Tryz.ntmps24
 go_wp2_with (go_at_call 55; refine HT.out.mono ?_; rintro e w1 ⟨v', rfl, h1, h2⟩)
 go_ret
 exact ⟨v', rfl, h1, h2⟩
set_option maxHeartbeats 2000000 in
theorem replies_any (x : Nat) (F : Nat → Prop) (s : Rs) (k n : Nat) (f : Int) (w : World) (hR : PRs w F x s) (hs : RsOk s k n) (hn : n ≤ 33554432) :
  Calls Tryz.prog 25 #[.pointer (some ⟨x, 0, none⟩), .int .i64 f] w fun e w' => ∃ v', e = .returned v' ∧ w'.ownsRow w.heap.size 66 2 v' (s.replies.drop (cutN f s.replies.length)).length (pcells (s.replies.drop (cutN f s.replies.length))) ∧ Below w.heap.size w w' := by
 obtain ⟨C, G, vt, bs, hC, hT, hCG, hF⟩ := hR.ex
 obtain ⟨hb, hc, mp, av, ar, cv, cr, hX, _, _, hv, hvF, hr, hrF, HB⟩ := hC.world
 have x11 : w.cell? ⟨x, 11, none⟩ = some (.slice ar s.replies.length cr) := by rw [cell_blk hX]; rfl
 have HT : Hid (Calls Tryz.prog 56 #[.slice ar s.replies.length cr, .int .i64 f] w fun e w' => ∃ v', e = .returned v' ∧ w'.ownsRow w.heap.size 66 2 v' (s.replies.drop (cutN f s.replies.length)).length (pcells (s.replies.drop (cutN f s.replies.length))) ∧ Below w.heap.size w w') := tailR_any _ _ f w hr (by have := hs.replies; omega)
 clear HB hr hX hv hC hT
 go_enter Tryz.func25, Tryz.ntmps25
 go_wp2_with (go_at_call 56; refine HT.out.mono ?_; rintro e w1 ⟨v', rfl, h1, h2⟩)
 go_ret
 exact ⟨v', rfl, h1, h2⟩
end Go.Proofs.YtefdokkadckbbaaGreatDoor
end
