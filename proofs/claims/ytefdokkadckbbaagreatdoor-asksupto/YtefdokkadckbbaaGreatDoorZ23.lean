/- P1 U3 Qa Qb -/
import Derived.Test.YtefdokkadckbbaaGreatDoorZ22
section
namespace Go.Proofs.YtefdokkadckbbaaGreatDoor
open Go.RowKit
set_option maxRecDepth 100000
set_option maxHeartbeats 1000000 in
theorem bytesOf_any (m : Msg) (va vs vm : Value) (w : World) (hG : Good w) (hS : SmallM m) (ha : RecSl w va m.answer) (hs : RecSl w vs m.servers) (hm : RecSl w vm m.more) :
  Calls Tryz.prog 112 #[.agg #[.int .i64 m.id, .bool m.reply, .int .i64 m.code, .string m.name, .int .i64 m.ty, va, vs, vm]] w fun e w' => e = .returned (.string (encS m)) ∧ Below w.heap.size w w' := by
 obtain ⟨aa, ca, rfl, hra⟩ := ha
 obtain ⟨ab, cb, rfl, hrs⟩ := hs
 obtain ⟨am, cm, rfl, hrm⟩ := hm
 have hA : RecSl w (.slice aa m.answer.length ca) m.answer := ⟨aa, ca, rfl, hra⟩
 have hSv : RecSl w (.slice ab m.servers.length cb) m.servers := ⟨ab, cb, rfl, hrs⟩
 have hM : RecSl w (.slice am m.more.length cm) m.more := ⟨am, cm, rfl, hrm⟩
 clear hra hrs hrm
 obtain ⟨O, hO⟩ : ∃ O, O = Obj.cells #[.int .i64 m.id, .bool m.reply, .int .i64 m.code, .string m.name, .int .i64 m.ty, .slice aa m.answer.length ca, .slice ab m.servers.length cb, .slice am m.more.length cm] 27 := ⟨_, rfl⟩
 have hB := (Below.refl w.heap.size w).alloc (Nat.le_refl _) O
 have hG' := hG.alloc O
 subst hO
 go_enter Tryz.func112, Tryz.ntmps112
 go_wp2_with (go_at_call 95; refine (wEncode_any m _ _ _ _ hG' hS (hA.below hB) (hSv.below hB) (hM.below hB)).mono ?_; rintro e w1 ⟨rfl, hb⟩)
 go_ret
 exact ⟨rfl, hB.trans (hb.mono hB.size)⟩
theorem small_none (id : Int) (rp : Bool) (code : Int) (nm : ByteArray) (ty : Int) (h : nm.size ≤ 1048576) : SmallM ⟨id, rp, code, nm, ty, [], [], []⟩ := ⟨h, fun r x hr => (by simp at hr), fun r x hr => (by simp at hr), fun r x hr => (by simp at hr)⟩
theorem recs_none (w : World) (a : Option Addr) (c : Nat) : RecSl w (.slice a 0 c) [] := ⟨a, c, rfl, .inl rfl⟩
theorem bytesOf_none (id : Int) (rp : Bool) (code : Int) (nm : ByteArray) (ty : Int) (aa as_ am : Option Addr) (ca cs cm : Nat) (w : World) (hG : Good w) (hn : nm.size ≤ 1048576) :
  Calls Tryz.prog 112 #[.agg #[.int .i64 id, .bool rp, .int .i64 code, .string nm, .int .i64 ty, .slice aa 0 ca, .slice as_ 0 cs, .slice am 0 cm]] w fun e w' => e = .returned (.string (encS ⟨id, rp, code, nm, ty, [], [], []⟩)) ∧ Below w.heap.size w w' :=
 bytesOf_any ⟨id, rp, code, nm, ty, [], [], []⟩ _ _ _ w hG (small_none id rp code nm ty hn) (recs_none w aa ca) (recs_none w as_ cs) (recs_none w am cm)
theorem bytesOf_q (id : Int) (nm : ByteArray) (ty : Int) (aa as_ am : Option Addr) (ca cs cm : Nat) (w : World) (hG : Good w) (hn : nm.size ≤ 1048576) :
  Calls Tryz.prog 112 #[.agg #[.int .i64 id, .bool false, .int .i64 0, .string nm, .int .i64 ty, .slice aa 0 ca, .slice as_ 0 cs, .slice am 0 cm]] w fun e w' => e = .returned (.string (qB id nm ty)) ∧ Below w.heap.size w w' := bytesOf_none id false 0 nm ty aa as_ am ca cs cm w hG hn
theorem bytesOf_r (id code : Int) (nm : ByteArray) (ty : Int) (aa as_ am : Option Addr) (ca cs cm : Nat) (w : World) (hG : Good w) (hn : nm.size ≤ 1048576) :
  Calls Tryz.prog 112 #[.agg #[.int .i64 id, .bool true, .int .i64 code, .string nm, .int .i64 ty, .slice aa 0 ca, .slice as_ 0 cs, .slice am 0 cm]] w fun e w' => e = .returned (.string (rB id code nm ty)) ∧ Below w.heap.size w w' := bytesOf_none id true code nm ty aa as_ am ca cs cm w hG hn
abbrev resO (vh : Value) (en tr pa mx : Int) (mp : Nat) (now nid : Int) (vt : Value) (asked : Int) (vs vr : Value) : Obj :=
 .cells #[vh, .int .i64 en, .int .i64 tr, .int .i64 pa, .int .i64 mx, .pointer (some ⟨mp, 0, none⟩), .int .i64 now, .int .i64 nid, vt, .int .i64 asked, vs, vr] 125 (0, 0)
theorem pcells_snoc (L : List (Int × ByteArray)) (p : Int × ByteArray) : pcells (L ++ [p]) = pcells L ++ [.int .i64 p.1, .string p.2] := by simp [pcells]
theorem infoP : (Tryz.prog.info? 105).map (fun i => (i.zero, i.size, i.bytes)) = some (some (.agg #[.int .i64 0, .string ByteArray.empty]), 2, 24) := by kernel_rfl
theorem infoR : (Tryz.prog.info? 66).map (fun i => (i.zero, i.size, i.bytes)) = some (some (.agg #[.int .i64 0, .string ByteArray.empty]), 2, 24) := by kernel_rfl
theorem u31 : Tryz.prog.underlying 31 = some (.slice 105) := by kernel_rfl
theorem u63 : Tryz.prog.underlying 63 = some (.slice 66) := by kernel_rfl
theorem room24 (n : Nat) (h : n ≤ 33554432) : n + 1 ≤ maxLen ∧ (n + 1) * 24 ≤ 140737488355328 := ⟨by unfold maxLen; omega, by omega⟩
set_option maxHeartbeats 4000000 in
theorem rsend_any (x mp : Nat) (vh vt vr : Value) (en tr pa mx now nid asked : Int) (av : Option Addr) (cv : Nat) (L : List (Int × ByteArray)) (id addr : Int) (nm : ByteArray) (ty : Int) (w : World)
  (hx : w.heap[x]? = some (resO vh en tr pa mx mp now nid vt asked (.slice av L.length cv) vr)) (hv : w.ownsRow 0 105 2 (.slice av L.length cv) L.length (pcells L)) (hG : Good w) (h0 : x ≠ 0) (hv0 : (Value.slice av L.length cv).ownBlock ≠ some 0) (hid : 0 ≤ id ∧ id ≤ 65535) (hnm : nm.size ≤ 1048576) (hL : L.length ≤ 33554432) :
  Calls Tryz.prog 101 #[.pointer (some ⟨x, 0, none⟩), .int .i64 addr, .agg #[.int .i64 id, .bool false, .int .i64 0, .string nm, .int .i64 ty, .slice none 0 0, .slice none 0 0, .slice none 0 0]] w fun e w' => e = .returned (.tuple #[]) ∧ ∃ g c,
   w'.heap[x]? = some (resO vh en tr pa mx mp now ((id + 1) % 65536) vt asked (.slice (some ⟨g, 0, none⟩) (L.length + 1) c) vr) ∧ w'.ownsRow 0 105 2 (.slice (some ⟨g, 0, none⟩) (L.length + 1) c) (L.length + 1) (pcells (L ++ [(addr, qB id nm ty)])) ∧
   Keeps (fun k => k = x ∨ (Value.slice av L.length cv).ownBlock = some k) w w' ∧ ((Value.slice av L.length cv).ownBlock = some g ∨ w.heap.size ≤ g) := by
 obtain ⟨F, hF⟩ : ∃ F : Nat → Prop, F = fun k => k = x ∨ (Value.slice av L.length cv).ownBlock = some k := ⟨_, rfl⟩
 have lxw : x < w.heap.size := (Array.getElem?_eq_some_iff.1 hx).1
 obtain ⟨O, hO⟩ : ∃ O, O = Obj.cells #[.int .i64 id, .bool false, .int .i64 0, .string nm, .int .i64 ty, .slice none 0 0, .slice none 0 0, .slice none 0 0] 27 := ⟨_, rfl⟩
 have hB1 : Below w.heap.size w (w.alloc O) := (Below.refl w.heap.size w).alloc (Nat.le_refl _) O
 have hx1 := (hB1.block x lxw).trans hx
 have x7 : (w.alloc O).cell? ⟨x, 7, none⟩ = some (.int .i64 nid) := by rw [cell_blk hx1]; rfl
 have fx : ∀ k, (w.alloc O).frozen? ⟨x, k, none⟩ = false := fun k => frozen_of_row _ x k _ 125 hx1
 have hne : x ≠ w.heap.size := Nat.ne_of_lt lxw
 obtain ⟨W2, hW2⟩ : ∃ W2, (w.alloc O).setCell ⟨x, 7, none⟩ (.int .i64 ((id + 1) % 65536)) = W2 := ⟨_, rfl⟩
 have z2 : W2.heap.size = w.heap.size + 1 := by rw [← hW2]; simp
 have hb2 : W2.heap[w.heap.size]? = some O := by rw [← hW2, Below.heap_setCell _ _ _ _ (by exact hne.symm)]; exact World.alloc_heap_new w O
 have hk2 : Keeps F w W2 := by rw [← hW2]; exact (keeps_of_below hB1).set (.inl (by rw [hF]; exact .inl rfl)) 7 _
 have hx2' : W2.heap[x]? = some (resO vh en tr pa mx mp now ((id + 1) % 65536) vt asked (.slice av L.length cv) vr) := by
  have := heap_setCell_same _ x 7 _ 125 (.int .i64 ((id + 1) % 65536)) hx1
  rw [hW2] at this
  simpa using this
 have hvx : ∀ k, (Value.slice av L.length cv).ownBlock = some k → k ≠ x := fun k e => (own_far hv hx (by decide) |> fun h => by rintro rfl; exact h e.symm)
 have hv2 : W2.ownsRow 0 105 2 (.slice av L.length cv) L.length (pcells L) := own_same hv fun k e => by rw [← hW2, Below.heap_setCell _ _ _ _ (hvx k e)]; exact hB1.block k (hv.lt k e).2
 have hGd : Good W2.drew := hk2.good hG (by rw [hF]; rintro (h | h); exact h0 h.symm; exact hv0 h)
 have lx : x < W2.drew.heap.size := by show x < W2.heap.size; omega
 have hx2 : W2.drew.cell? ⟨x, 10, none⟩ = some (.slice av L.length cv) := by show W2.cell? _ = _; rw [cell_blk hx2']; rfl
 have hS0 : Keeps F W2 W2.drew := (Keeps.refl _ _).drew
 have HF : ∀ w', Keeps F W2 w' → w'.cell? ⟨w.heap.size, 0, none⟩ = some (.int .i64 id) ∧ w'.cell? ⟨w.heap.size, 1, none⟩ = some (.bool false) ∧ w'.cell? ⟨w.heap.size, 2, none⟩ = some (.int .i64 0) ∧ w'.cell? ⟨w.heap.size, 3, none⟩ = some (.string nm) ∧ w'.cell? ⟨w.heap.size, 4, none⟩ = some (.int .i64 ty) ∧ w'.cell? ⟨w.heap.size, 5, none⟩ = some (.slice none 0 0) ∧ w'.cell? ⟨w.heap.size, 6, none⟩ = some (.slice none 0 0) ∧ w'.cell? ⟨w.heap.size, 7, none⟩ = some (.slice none 0 0) := fun w' hw => by
  have hb : w'.heap[w.heap.size]? = some O := (hw.block _ (by omega) (by rw [hF]; rintro (h | h); exact hne h.symm; have := (hv.lt _ h).2; omega)).trans hb2
  rw [hO] at hb
  exact cells8 hb
 have HEND : Hid (∀ w5 w6 o g6 c6, Below W2.drew.heap.size W2.drew w5 → w6.ownsRow 0 105 2 (.slice (some ⟨g6, 0, none⟩) (L.length + 1) c6) (L.length + 1) (pcells L ++ [.int .i64 addr, .string (qB id nm ty)]) → Lies (w5.alloc o) w6 (.slice av L.length cv) g6 →
   w6.cell? ⟨x, 10, none⟩ = some (.slice av L.length cv) ∧ w6.frozen? ⟨x, 10, none⟩ = false ∧
   ((w6.setCell ⟨x, 10, none⟩ (.slice (some ⟨g6, 0, none⟩) (L.length + 1) c6)).heap[x]? = some (resO vh en tr pa mx mp now ((id + 1) % 65536) vt asked (.slice (some ⟨g6, 0, none⟩) (L.length + 1) c6) vr) ∧
    (w6.setCell ⟨x, 10, none⟩ (.slice (some ⟨g6, 0, none⟩) (L.length + 1) c6)).ownsRow 0 105 2 (.slice (some ⟨g6, 0, none⟩) (L.length + 1) c6) (L.length + 1) (pcells (L ++ [(addr, qB id nm ty)])) ∧
    Keeps (fun k => k = x ∨ (Value.slice av L.length cv).ownBlock = some k) w (w6.setCell ⟨x, 10, none⟩ (.slice (some ⟨g6, 0, none⟩) (L.length + 1) c6)) ∧ ((Value.slice av L.length cv).ownBlock = some g6 ∨ w.heap.size ≤ g6))) := by
  intro w5 w6 o g6 c6 hb5 r6 L6
  have hz5 : W2.heap.size ≤ w5.heap.size := hb5.size
  have e5 : (w5.alloc o).heap[x]? = some (resO vh en tr pa mx mp now ((id + 1) % 65536) vt asked (.slice av L.length cv) vr) := (Below.heap_alloc w5 o x (by omega)).trans ((hb5.block x lx).trans hx2')
  have e6 : w6.heap[x]? = some (resO vh en tr pa mx mp now ((id + 1) % 65536) vt asked (.slice av L.length cv) vr) := (L6.1.block x (by simp; omega) (fun h => hvx x h.symm rfl)).trans e5
  refine ⟨by rw [cell_blk e6]; rfl, frozen_of_row _ x 10 _ 125 e6, ?_, ?_, ?_, ?_⟩
  ·have := heap_setCell_same w6 x 10 _ 125 (.slice (some ⟨g6, 0, none⟩) (L.length + 1) c6) e6
   simpa using this
  ·rw [pcells_snoc]
   refine own_same r6 fun k e => Below.heap_setCell _ _ _ _ ?_
   rintro rfl
   exact own_far r6 e6 (by decide) e.symm
  ·have : Keeps F w w6 := ((hk2.trans (hS0.below hb5)).alloc o).grown L6.1 (fun j e => .inl (by rw [hF]; exact .inr e))
   rw [hF] at this
   exact this.set (.inl (.inl rfl)) 10 _
  ·rcases L6.2.1 with h | ⟨h, _⟩
   ·exact .inl h
   ·exact .inr (by simp at h; omega)
 have hFx : F x := by rw [hF]; exact .inl rfl
 have hFv : ∀ j, (Value.slice av L.length cv).ownBlock = some j → F j := fun j e => by rw [hF]; exact .inr e
 obtain ⟨i0, hi0, hz0, hz1, hz2⟩ := info_parts infoP
 have hu31 := u31
 have hw1 : IntKind.i64.wrap (id + 1) = id + 1 := by rw [IntKind.wrap_i64]; omega
 have hw2 : (id + 1).tmod 65536 = (id + 1) % 65536 := by rw [Int.tmod_eq_emod_of_nonneg (by omega)]
 subst hO
 go_enter Tryz.func101, Tryz.ntmps101
 go_wp2
 refine wp_region_held_drew (S := fun w' => Keeps F W2 w') (by kernel_rfl) hS0 (fun hS => ?_)
 refine tkS (i := 0) (v := .pointer (some ⟨x, 0, none⟩)) rfl hS ?_
 refine tkS (i := 1) (v := .pointer (some ⟨x, 0, none⟩)) rfl hS ?_
 refine tkS (i := 2) (v := .pointer (some ⟨x, 0, none⟩)) rfl hS ?_
 refine tkS (i := 3) (v := .pointer (some ⟨x, 10, none⟩)) rfl hS ?_
 refine tkS (i := 5) (v := .int .i64 addr) rfl hS ?_
 refine tkY (i := 6) (v := .agg #[.int .i64 id, .bool false, .int .i64 0, .string nm, .int .i64 ty, .slice none 0 0, .slice none 0 0, .slice none 0 0]) rfl (Or.inl ⟨by rfl, fun w' hw => by obtain ⟨h0, h1, h2, h3, h4, h5, h6, h7⟩ := HF w' hw; go_simp⟩) hS ?_
 refine wpAnyH_ready (rs := [4, 7]) (by kernel_rfl) (by simp) ?_
 refine AllReadyH.cons rfl (fun K hK => ?_) (AllReadyH.cons rfl (fun K hK => ?_) AllReadyH.nil)
 ·go_simp
  refine hK.out _ _ hS fun hS => ?_
  refine wpAnyH_ready (rs := [7]) (by kernel_rfl) (by simp) ?_
  refine AllReadyH.cons rfl (fun K hK => ?_) AllReadyH.nil
  go_simp
  refine (bytesOf_q id nm ty none none none 0 0 0 _ hGd hnm).mono ?_
  rintro e w5 ⟨rfl, hb5⟩
  have hS5 : Keeps F W2 w5 := hS0.below hb5
  have hx5 : w5.cell? ⟨x, 10, none⟩ = some (.slice av L.length cv) := (hb5.cell (p := ⟨x, 10, none⟩) lx).trans hx2
  have hx6 : ∀ o, (w5.alloc o).cell? ⟨x, 10, none⟩ = some (.slice av L.length cv) := fun o => (((Below.refl _ w5).alloc (Nat.le_refl _) o).cell (p := ⟨x, 10, none⟩) (Nat.lt_of_lt_of_le lx hb5.size)).trans hx5
  refine hK.out _ _ hS5 fun hS => ?_
  refine tkS (i := 8) (v := .agg #[.int .i64 addr, .string (qB id nm ty)]) rfl hS ?_
  refine wpAnyH_ready (rs := [9]) (by kernel_rfl) (by simp) ?_
  refine AllReadyH.cons rfl (fun K hK => ?_) AllReadyH.nil
  go_simp
  refine hK.out _ _ (hS5.alloc _) fun hS => ?_
  refine wpAnyH_ready (rs := [10]) (by kernel_rfl) (by simp) ?_
  refine AllReadyH.cons rfl (fun K hK => ?_) AllReadyH.nil
  refine step_append_two _ rfl _ _ 31 rfl 0 105 i0 (.agg #[.int .i64 0, .string ByteArray.empty]) 2 24 hu31 hi0 hz0 hz1 hz2 rfl (.slice av L.length cv) _ _ rfl (own_same hv2 (fun k e => (Below.heap_alloc w5 _ k (Nat.lt_of_lt_of_le (hv2.lt k e).2 hb5.size)).trans (hb5.block k (hv2.lt k e).2))) ⟨w5.heap.size, 0, none⟩ 1 1 [.int .i64 addr, .string (qB id nm ty)] rfl rfl (World.news_of_block (Go.heap_alloc_new _ _)) (by intro u hu; simp at hu; rcases hu with rfl | rfl <;> rfl) (by decide) (room24 _ hL).1 (room24 _ hL).2 (Nat.zero_le _) ?_
  intro g6 c6 w6 r6 o6 L6
  have hS6 : Keeps F W2 w6 := (hS5.alloc _).grown L6.1 (fun j e => .inl (hFv j e))
  have HE := HEND.out w5 w6 _ g6 c6 hb5 r6 L6
  clear r6 o6 L6
  obtain ⟨ee, ef, ex⟩ := HE
  refine hK.out _ _ hS6 fun hS => ?_
  refine tkS (i := 11) (v := .pointer (some ⟨x, 0, none⟩)) rfl hS ?_
  refine tkS (i := 12) (v := .pointer (some ⟨x, 10, none⟩)) rfl hS ?_
  refine wpAnyH_ready (rs := [13]) (by kernel_rfl) (by simp) ?_
  refine AllReadyH.cons rfl (fun K hK => ?_) AllReadyH.nil
  go_simp
  refine hK.out _ _ (hS6.set (.inl hFx) 10 _) fun hS => ?_
  refine wpAnyH_done (by kernel_rfl) ?_ _
  go_end0
  exact ⟨rfl, g6, c6, ex⟩
 ·go_simp
  refine (bytesOf_q id nm ty none none none 0 0 0 _ hGd hnm).mono ?_
  rintro e w5 ⟨rfl, hb5⟩
  have hS5 : Keeps F W2 w5 := hS0.below hb5
  have hx5 : w5.cell? ⟨x, 10, none⟩ = some (.slice av L.length cv) := (hb5.cell (p := ⟨x, 10, none⟩) lx).trans hx2
  have hx6 : ∀ o, (w5.alloc o).cell? ⟨x, 10, none⟩ = some (.slice av L.length cv) := fun o => (((Below.refl _ w5).alloc (Nat.le_refl _) o).cell (p := ⟨x, 10, none⟩) (Nat.lt_of_lt_of_le lx hb5.size)).trans hx5
  refine hK.out _ _ hS5 fun hS => ?_
  refine tkS (i := 8) (v := .agg #[.int .i64 addr, .string (qB id nm ty)]) rfl hS ?_
  refine wpAnyH_ready (rs := [4, 9]) (by kernel_rfl) (by simp) ?_
  refine AllReadyH.cons rfl (fun K hK => ?_) (AllReadyH.cons rfl (fun K hK => ?_) AllReadyH.nil)
  ·go_simp
   refine hK.out _ _ hS fun hS => ?_
   refine wpAnyH_ready (rs := [9]) (by kernel_rfl) (by simp) ?_
   refine AllReadyH.cons rfl (fun K hK => ?_) AllReadyH.nil
   go_simp
   refine hK.out _ _ (hS5.alloc _) fun hS => ?_
   refine wpAnyH_ready (rs := [10]) (by kernel_rfl) (by simp) ?_
   refine AllReadyH.cons rfl (fun K hK => ?_) AllReadyH.nil
   refine step_append_two _ rfl _ _ 31 rfl 0 105 i0 (.agg #[.int .i64 0, .string ByteArray.empty]) 2 24 hu31 hi0 hz0 hz1 hz2 rfl (.slice av L.length cv) _ _ rfl (own_same hv2 (fun k e => (Below.heap_alloc w5 _ k (Nat.lt_of_lt_of_le (hv2.lt k e).2 hb5.size)).trans (hb5.block k (hv2.lt k e).2))) ⟨w5.heap.size, 0, none⟩ 1 1 [.int .i64 addr, .string (qB id nm ty)] rfl rfl (World.news_of_block (Go.heap_alloc_new _ _)) (by intro u hu; simp at hu; rcases hu with rfl | rfl <;> rfl) (by decide) (room24 _ hL).1 (room24 _ hL).2 (Nat.zero_le _) ?_
   intro g6 c6 w6 r6 o6 L6
   have hS6 : Keeps F W2 w6 := (hS5.alloc _).grown L6.1 (fun j e => .inl (hFv j e))
   have HE := HEND.out w5 w6 _ g6 c6 hb5 r6 L6
   clear r6 o6 L6
   obtain ⟨ee, ef, ex⟩ := HE
   refine hK.out _ _ hS6 fun hS => ?_
   refine tkS (i := 11) (v := .pointer (some ⟨x, 0, none⟩)) rfl hS ?_
   refine tkS (i := 12) (v := .pointer (some ⟨x, 10, none⟩)) rfl hS ?_
   refine wpAnyH_ready (rs := [13]) (by kernel_rfl) (by simp) ?_
   refine AllReadyH.cons rfl (fun K hK => ?_) AllReadyH.nil
   go_simp
   refine hK.out _ _ (hS6.set (.inl hFx) 10 _) fun hS => ?_
   refine wpAnyH_done (by kernel_rfl) ?_ _
   go_end0
   exact ⟨rfl, g6, c6, ex⟩
  ·go_simp
   refine hK.out _ _ (hS5.alloc _) fun hS => ?_
   refine wpAnyH_ready (rs := [4]) (by kernel_rfl) (by simp) ?_
   refine AllReadyH.cons rfl (fun K hK => ?_) AllReadyH.nil
   go_simp
   refine hK.out _ _ hS fun hS => ?_
   refine wpAnyH_ready (rs := [10]) (by kernel_rfl) (by simp) ?_
   refine AllReadyH.cons rfl (fun K hK => ?_) AllReadyH.nil
   refine step_append_two _ rfl _ _ 31 rfl 0 105 i0 (.agg #[.int .i64 0, .string ByteArray.empty]) 2 24 hu31 hi0 hz0 hz1 hz2 rfl (.slice av L.length cv) _ _ rfl (own_same hv2 (fun k e => (Below.heap_alloc w5 _ k (Nat.lt_of_lt_of_le (hv2.lt k e).2 hb5.size)).trans (hb5.block k (hv2.lt k e).2))) ⟨w5.heap.size, 0, none⟩ 1 1 [.int .i64 addr, .string (qB id nm ty)] rfl rfl (World.news_of_block (Go.heap_alloc_new _ _)) (by intro u hu; simp at hu; rcases hu with rfl | rfl <;> rfl) (by decide) (room24 _ hL).1 (room24 _ hL).2 (Nat.zero_le _) ?_
   intro g6 c6 w6 r6 o6 L6
   have hS6 : Keeps F W2 w6 := (hS5.alloc _).grown L6.1 (fun j e => .inl (hFv j e))
   have HE := HEND.out w5 w6 _ g6 c6 hb5 r6 L6
   clear r6 o6 L6
   obtain ⟨ee, ef, ex⟩ := HE
   refine hK.out _ _ hS6 fun hS => ?_
   refine tkS (i := 11) (v := .pointer (some ⟨x, 0, none⟩)) rfl hS ?_
   refine tkS (i := 12) (v := .pointer (some ⟨x, 10, none⟩)) rfl hS ?_
   refine wpAnyH_ready (rs := [13]) (by kernel_rfl) (by simp) ?_
   refine AllReadyH.cons rfl (fun K hK => ?_) AllReadyH.nil
   go_simp
   refine hK.out _ _ (hS6.set (.inl hFx) 10 _) fun hS => ?_
   refine wpAnyH_done (by kernel_rfl) ?_ _
   go_end0
   exact ⟨rfl, g6, c6, ex⟩
end Go.Proofs.YtefdokkadckbbaaGreatDoor
end
section
namespace Go.Proofs.YtefdokkadckbbaaGreatDoor
open Go.RowKit
set_option maxRecDepth 100000
def cntOf (L : List (Int × Int)) (a : Int) : Int := match L.find? (fun p => p.1 == a) with | some p => p.2 | none => 0
def tcells (nm : ByteArray) (L : List (Int × Int)) : List Value := (L.map fun p => [Value.string nm, .string ⟨#[]⟩, .int .i64 p.1, .int .i64 p.2]).flatten
def PartN (n : Nat) (hs : List Int) (L : List (Int × Int)) : Prop := ∃ k, n ≤ k ∧ k ≤ hs.length ∧ L.length ≤ k ∧ ∀ j a, j < k → hs[j]? = some a → a ∈ L.map (·.1)
def Part (hs : List Int) (L : List (Int × Int)) : Prop := PartN 0 hs L
structure Rb where
 tb : Nat
 gb : Nat
 g : Nat
 vt : Value
 L : List (Int × Int)
def Rb.has (b : Rb) (k : Nat) : Prop := k = b.tb ∨ k = b.gb ∨ k = b.g ∨ b.vt.ownBlock = some k
abbrev rtaskO (num id : Int) (nm : ByteArray) (ty : Int) (va vs vm gs : Value) (sends wi wa at_ : Int) (wn : ByteArray) (wt : Int) (wz : ByteArray) : Obj :=
 .cells #[.int .i64 num, .int .i64 id, .bool false, .int .i64 0, .string nm, .int .i64 ty, va, vs, vm, gs, .int .i64 sends, .int .i64 wi, .int .i64 wa, .int .i64 at_, .string wn, .int .i64 wt, .string wz] 220 (0, 0)
abbrev rgoalO (nm : ByteArray) (ty : Int) (vt : Value) : Obj := .cells #[.string nm, .string nm, .int .i64 ty, .slice none 0 0, vt, .slice none 0 0] 226 (0, 0)
abbrev rresO (vh : Value) (en tr pa mx now rid asked : Int) (vt vs vr : Value) : Obj :=
 .cells #[vh, .int .i64 en, .int .i64 tr, .int .i64 pa, .int .i64 mx, .slice none 0 0, .int .i64 0, .int .i64 now, .int .i64 rid, .int .i64 asked, vt, vs, vr] 163 (0, 0)
structure RTk (W : World) (hs : List Int) (b : Rb) (t : Tk) : Prop where
 task : ∃ (aa as_ am : Option Addr) (ca cs cm gc : Nat) (wi wa : Int) (wn : ByteArray) (wt : Int) (wz : ByteArray), W.heap[b.tb]? = some (rtaskO t.num t.id t.nm t.ty (.slice aa 0 ca) (.slice as_ 0 cs) (.slice am 0 cm) (.slice (some ⟨b.gb, 0, none⟩) 1 gc) t.sends wi wa t.at_ wn wt wz)
 goals : ∃ cur : Array Value, W.heap[b.gb]? = some (.cells cur 222 (0, 0)) ∧ cur[0]? = some (.pointer (some ⟨b.g, 0, none⟩))
 goal : W.heap[b.g]? = some (rgoalO t.nm t.ty b.vt)
 row : W.ownsRow 0 386 4 b.vt b.L.length (tcells t.nm b.L)
 cnt : t.cnt = cntOf b.L
 part : Part hs b.L
theorem RTk.same {W W' : World} {hs : List Int} {b : Rb} {t : Tk} (h : RTk W hs b t) (hk : ∀ k, b.has k → W'.heap[k]? = W.heap[k]?) : RTk W' hs b t := by
 obtain ⟨⟨aa, as_, am, ca, cs, cm, gc, wi, wa, wn, wt, wz, q1⟩, ⟨cur, q2, q3⟩, q4, q5, q6, q7⟩ := h
 exact ⟨⟨aa, as_, am, ca, cs, cm, gc, wi, wa, wn, wt, wz, (hk _ (.inl rfl)).trans q1⟩, ⟨cur, (hk _ (.inr (.inl rfl))).trans q2, q3⟩, (hk _ (.inr (.inr (.inl rfl)))).trans q4, own_same q5 fun k e => hk k (.inr (.inr (.inr e))), q6, q7⟩
structure RRc (W : World) (F : Nat → Prop) (y : Nat) (s : Rs) (ps : List (Rb × Tk)) (vh vt vs vr : Value) (rid : Int) : Prop where
 res : W.heap[y]? = some (rresO vh s.en s.tr s.pa s.mx s.now rid s.asked vt vs vr)
 rid : (rid + 1) % 65536 = s.nid ∧ 0 ≤ rid ∧ rid ≤ 65535
 hint : W.ownsRow 0 3 1 vh s.hs.length (s.hs.map fun a => Value.int .i64 a)
 tasks : W.ownsRow 0 217 1 vt ps.length (ps.map fun p => Value.pointer (some ⟨p.1.tb, 0, none⟩))
 sent : W.ownsRow 0 105 2 vs s.sent.length (pcells s.sent)
 reps : W.ownsRow 0 66 2 vr s.replies.length (pcells s.replies)
 task : ∀ p ∈ ps, RTk W s.hs p.1 p.2
 nod : (ps.map (·.1.tb)).Nodup ∧ (ps.map (·.1.g)).Nodup ∧ ps.Pairwise fun p q => ∀ k, p.1.vt.ownBlock = some k → q.1.vt.ownBlock ≠ some k
 own : F y ∧ (∀ k, vh.ownBlock = some k → F k) ∧ (∀ k, vt.ownBlock = some k → F k) ∧ (∀ k, vs.ownBlock = some k → F k) ∧ (∀ k, vr.ownBlock = some k → F k) ∧ ∀ p ∈ ps, ∀ k, p.1.has k → F k
 lt : ∀ k, F k → k < W.heap.size
 zero : ¬ F 0
structure RRs (W : World) (F : Nat → Prop) (y : Nat) (s : Rs) : Prop where
 ex : ∃ (ps : List (Rb × Tk)) (vh vt vs vr : Value) (rid : Int), RRc W F y s ps vh vt vs vr rid ∧ s.tasks = ps.map (·.2)
section
variable {W W' : World} {F G : Nat → Prop} {y : Nat} {s : Rs} {ps : List (Rb × Tk)} {vh vt vs vr : Value} {rid : Int}
theorem RRc.same (h : RRc W F y s ps vh vt vs vr rid) (hs : W.heap.size ≤ W'.heap.size) (hk : ∀ k, F k → W'.heap[k]? = W.heap[k]?) : RRc W' F y s ps vh vt vs vr rid :=
 ⟨(hk _ h.own.1).trans h.res, h.rid, own_same h.hint fun k e => hk k (h.own.2.1 k e), own_same h.tasks fun k e => hk k (h.own.2.2.1 k e), own_same h.sent fun k e => hk k (h.own.2.2.2.1 k e), own_same h.reps fun k e => hk k (h.own.2.2.2.2.1 k e),
  fun p hp => (h.task p hp).same fun k e => hk k (h.own.2.2.2.2.2 p hp k e), h.nod, h.own, fun k hf => Nat.lt_of_lt_of_le (h.lt k hf) hs, h.zero⟩
theorem RRs.same (h : RRs W F y s) (hs : W.heap.size ≤ W'.heap.size) (hk : ∀ k, F k → W'.heap[k]? = W.heap[k]?) : RRs W' F y s := by
 obtain ⟨ps, vh, vt, vs, vr, rid, h1, h2⟩ := h.ex
 exact ⟨ps, vh, vt, vs, vr, rid, h1.same hs hk, h2⟩
theorem RRs.lt (h : RRs W F y s) : ∀ k, F k → k < W.heap.size := by
 obtain ⟨ps, vh, vt, vs, vr, rid, h1, h2⟩ := h.ex
 exact h1.lt
theorem RRs.zero (h : RRs W F y s) : ¬ F 0 := by
 obtain ⟨ps, vh, vt, vs, vr, rid, h1, h2⟩ := h.ex
 exact h1.zero
theorem RRs.keeps (h : RRs W F y s) (hK : Keeps G W W') (hd : ∀ k, F k → ¬ G k) : RRs W' F y s := h.same hK.size fun k hf => hK.block k (h.lt k hf) (hd k hf)
theorem RRc.keeps (h : RRc W F y s ps vh vt vs vr rid) (hK : Keeps G W W') (hd : ∀ k, F k → ¬ G k) : RRc W' F y s ps vh vt vs vr rid := h.same hK.size fun k hf => hK.block k (h.lt k hf) (hd k hf)
end
end Go.Proofs.YtefdokkadckbbaaGreatDoor
end
section
namespace Go.Proofs.YtefdokkadckbbaaGreatDoor
open Go.RowKit
set_option maxRecDepth 100000
theorem own_cell {w : World} {base e size g n c j : Nat} {xs : List Value} {u : Value} (h : w.ownsRow base e size (.slice (some ⟨g, 0, none⟩) n c) n xs) (hu : xs[j]? = some u) : w.cell? ⟨g, j, none⟩ = some u := by
 have := h.cells (g := g) rfl j u hu
 rw [Addr.add_lit] at this
 simpa using this
set_option maxHeartbeats 1000000 in
theorem rfind_none (y : Nat) (nm : ByteArray) (k : Int) (w : World) (h : w.cell? ⟨y, 5, none⟩ = some (.slice none 0 0)) :
  Calls Tryz.prog 231 #[.pointer (some ⟨y, 0, none⟩), .string nm, .int .i64 k] w fun e w' => e = .returned (.int .i64 (-1)) ∧ w' = w := by
 go_enter Tryz.func231, Tryz.ntmps231
 go_wp2
 refine wp_loop_rounds 1 ?_
 rw [rounds_succ]
 go_wp2
 go_ret
 exact ⟨rfl, rfl⟩
set_option maxHeartbeats 1000000 in
theorem rlive_none (y : Nat) (nm : ByteArray) (k : Int) (w : World) (h : w.cell? ⟨y, 5, none⟩ = some (.slice none 0 0)) :
  Calls Tryz.prog 166 #[.pointer (some ⟨y, 0, none⟩), .string nm, .int .i64 k] w fun e w' => e = .returned (.int .i64 (-1)) ∧ ∃ m, w' = w.drewN m := by
 go_enter Tryz.func166, Tryz.ntmps166
 go_wp2_with (go_at_call 231; refine (rfind_none y nm k _ h).mono ?_; rintro e w1 ⟨rfl, rfl⟩)
 go_quiet (fail)
 go_wp2
 go_ret
 exact ⟨rfl, nq, rfl⟩
set_option maxHeartbeats 1000000 in
theorem rsaid_none (y : Nat) (nm : ByteArray) (k r : Int) (w : World) (h : w.cell? ⟨y, 5, none⟩ = some (.slice none 0 0)) :
  Calls Tryz.prog 163 #[.pointer (some ⟨y, 0, none⟩), .string nm, .int .i64 k, .int .i64 r] w fun e w' => e = .returned (.int .i64 (-1)) ∧ ∃ m, w' = w.drewN m := by
 go_enter Tryz.func163, Tryz.ntmps163
 go_wp2_with (go_at_call 166; refine (rlive_none y nm k _ h).mono ?_; rintro e w1 ⟨rfl, m, rfl⟩)
 go_ret
 exact ⟨rfl, m, rfl⟩
set_option maxHeartbeats 1000000 in
theorem rabove_any (z : ByteArray) (w : World) (hz : z.size ≤ 1048576) :
  Calls Tryz.prog 232 #[.string z] w fun e w' => ∃ z', e = .returned (.string z') ∧ w' = w ∧ z'.size ≤ z.size ∧ (0 < z.size → z'.size < z.size) := by
 go_enter Tryz.func232, Tryz.ntmps232
 go_wp2
 go_loop [3] (fun i => ∃ k : Nat, k ≤ z.size ∧ i = .int .i64 k) (fun i => z.size - (intOf i).toNat)
 case atStart => exact ⟨0, Nat.zero_le _, rfl⟩
 case round =>
  obtain ⟨k, hk, rfl⟩ := hrel
  by_cases hlt : k < z.size
  ·go_wp2
   ·go_ret
    refine ⟨_, rfl, rfl, ?_, ?_⟩ <;> simp <;> omega
   ·go_round
    case rel => exact ⟨k + 1, hlt, by go_num⟩
    case measure => simp [intOf]; omega
  ·go_wp2
   go_ret
   exact ⟨⟨#[]⟩, rfl, rfl, Nat.zero_le _, fun h => h⟩
end Go.Proofs.YtefdokkadckbbaaGreatDoor
end
section
namespace Go.Proofs.YtefdokkadckbbaaGreatDoor
open Go.RowKit
set_option maxRecDepth 100000
theorem tcells_get (nm : ByteArray) (L : List (Int × Int)) {i : Nat} {p : Int × Int} (h : L[i]? = some p) :
  (tcells nm L)[i * 4]? = some (.string nm) ∧ (tcells nm L)[i * 4 + 1]? = some (.string ⟨#[]⟩) ∧ (tcells nm L)[i * 4 + 2]? = some (.int .i64 p.1) ∧ (tcells nm L)[i * 4 + 3]? = some (.int .i64 p.2) := by
 induction L generalizing i with
 | nil => simp at h
 | cons q l ih =>
  cases i with
  | zero =>
   simp only [List.getElem?_cons_zero, Option.some.injEq] at h
   subst h
   exact ⟨rfl, rfl, rfl, rfl⟩
  | succ i =>
   have := ih (by simpa using h)
   have e : tcells nm (q :: l) = [Value.string nm, .string ⟨#[]⟩, .int .i64 q.1, .int .i64 q.2] ++ tcells nm l := by simp [tcells]
   have f : ∀ j, (tcells nm (q :: l))[(i + 1) * 4 + j]? = (tcells nm l)[i * 4 + j]? := fun j => by
    rw [e, List.getElem?_append_right (by simp; omega)]
    congr 1
    simp only [List.length_cons, List.length_nil]
    omega
   exact ⟨(f 0).trans this.1, (f 1).trans this.2.1, (f 2).trans this.2.2.1, (f 3).trans this.2.2.2⟩
theorem tcells_snoc (nm : ByteArray) (L : List (Int × Int)) (a n : Int) : tcells nm (L ++ [(a, n)]) = tcells nm L ++ [.string nm, .string ⟨#[]⟩, .int .i64 a, .int .i64 n] := by simp [tcells]
theorem info386 : (Tryz.prog.info? 386).map (fun i => (i.zero, i.size, i.bytes)) = some (some (.agg #[.string ByteArray.empty, .string ByteArray.empty, .int .i64 0, .int .i64 0]), 4, 48) := by kernel_rfl
theorem u224 : Tryz.prog.underlying 224 = some (.slice 386) := by kernel_rfl
theorem room48 (n : Nat) (h : n ≤ 1024) : n + 1 ≤ maxLen ∧ (n + 1) * 48 ≤ 140737488355328 := ⟨by unfold maxLen; omega, by omega⟩
theorem cnt_first {L : List (Int × Int)} {a n : Int} {i : Nat} (h : L[i]? = some (a, n)) (hj : ∀ j, j < i → ∀ p, L[j]? = some p → p.1 ≠ a) : cntOf L a = n := by
 induction L generalizing i with
 | nil => simp at h
 | cons q l ih =>
  cases i with
  | zero =>
   simp only [List.getElem?_cons_zero, Option.some.injEq] at h
   subst h
   simp [cntOf]
  | succ i =>
   have hq : q.1 ≠ a := hj 0 (by omega) q rfl
   have := ih (i := i) (by simpa using h) fun j hji p hp => hj (j + 1) (by omega) p (by simpa using hp)
   simp only [cntOf] at this ⊢
   rw [List.find?_cons_of_neg (by simpa using hq)]
   exact this
theorem cnt_none {L : List (Int × Int)} {a : Int} (h : ∀ p ∈ L, p.1 ≠ a) : cntOf L a = 0 := by
 unfold cntOf
 rw [List.find?_eq_none.2 (by intro p hp; simpa using h p hp)]
theorem cells6 {W : World} {b : Nat} {t : TypeId} {v0 v1 v2 v3 v4 v5 : Value} (h : W.heap[b]? = some (.cells #[v0, v1, v2, v3, v4, v5] t (0, 0))) :
  W.cell? ⟨b, 0, none⟩ = some v0 ∧ W.cell? ⟨b, 1, none⟩ = some v1 ∧ W.cell? ⟨b, 2, none⟩ = some v2 ∧ W.cell? ⟨b, 3, none⟩ = some v3 ∧ W.cell? ⟨b, 4, none⟩ = some v4 ∧ W.cell? ⟨b, 5, none⟩ = some v5 := by
 refine ⟨?_, ?_, ?_, ?_, ?_, ?_⟩ <;> (rw [cell_blk h]; rfl)
def TimesR (g : Nat) (nm : ByteArray) (ty : Int) (v : Value) (L : List (Int × Int)) (a : Int) (w w' : World) (i : Nat) : Prop :=
 ∃ (gb cv' : Nat) (L' : List (Int × Int)), w'.heap[g]? = some (rgoalO nm ty (.slice (some ⟨gb, 0, none⟩) L'.length cv')) ∧ w'.ownsRow 0 386 4 (.slice (some ⟨gb, 0, none⟩) L'.length cv') L'.length (tcells nm L') ∧
  L'[i]? = some (a, cntOf L a) ∧ (∀ j, j < i → ∀ p, L'[j]? = some p → p.1 ≠ a) ∧ (L' = L ∨ (L' = L ++ [(a, 0)] ∧ a ∉ L.map (·.1))) ∧ Keeps (fun k => k = g ∨ v.ownBlock = some k) w w' ∧ (v.ownBlock = some gb ∨ w.heap.size ≤ gb)
set_option maxHeartbeats 4000000 in
theorem times_any (g : Nat) (nm : ByteArray) (ty a : Int) (av : Option Addr) (cv : Nat) (L : List (Int × Int)) (w : World) (hg : w.heap[g]? = some (rgoalO nm ty (.slice av L.length cv))) (hv : w.ownsRow 0 386 4 (.slice av L.length cv) L.length (tcells nm L)) (hL : L.length ≤ 1024) :
  Calls Tryz.prog 279 #[.pointer (some ⟨g, 0, none⟩), .string ⟨#[]⟩, .int .i64 a] w fun e w' => ∃ i : Nat, e = .returned (.int .i64 i) ∧ TimesR g nm ty (.slice av L.length cv) L a w w' i := by
 obtain ⟨i0, hi0, hz0, hz1, hz2⟩ := info_parts info386
 have hu224 := u224
 obtain ⟨_, g1, _, _, g4, _⟩ := cells6 hg
 have lg : g < w.heap.size := (Array.getElem?_eq_some_iff.1 hg).1
 have HC : Hid (∀ k p, L[k]? = some p → ∃ gb, av = some ⟨gb, 0, none⟩ ∧ w.cell? ⟨gb, k * 4, none⟩ = some (.string nm) ∧ w.cell? ⟨gb, k * 4 + 1, none⟩ = some (.string ⟨#[]⟩) ∧ w.cell? ⟨gb, k * 4 + 2, none⟩ = some (.int .i64 p.1)) := by
  intro k p hp
  rcases hv.2 with ⟨h1, h0⟩ | ⟨gb, cap, cur, h1, _⟩
  ·have := (List.getElem?_eq_some_iff.1 hp).1; omega
  ·simp only [Value.slice.injEq] at h1
   obtain ⟨rfl, _, rfl⟩ := h1
   obtain ⟨t0, t1, t2, _⟩ := tcells_get nm L hp
   exact ⟨gb, rfl, own_cell hv t0, own_cell hv t1, own_cell hv t2⟩
 have HF : Hid (∀ (k : Nat) (n : Int) (m gb : Nat), av = some ⟨gb, 0, none⟩ → L[k]? = some (a, n) → (∀ j, j < k → ∀ p, L[j]? = some p → p.1 ≠ a) → TimesR g nm ty (.slice av L.length cv) L a w (w.drewN m) k) := by
  rintro k n m gb rfl hk hj
  exact ⟨gb, cv, L, hg, own_same hv fun _ _ => rfl, by rw [cnt_first hk hj]; exact hk, hj, .inl rfl, ⟨rfl, rfl, rfl, Nat.le_refl _, fun _ _ _ => rfl⟩, .inl rfl⟩
 have hvg : some g ≠ (Value.slice av L.length cv).ownBlock := own_far hv hg (by decide)
 have HX := hid hg
 have HV := hid hv
 clear hg hv
 go_enter Tryz.func279, Tryz.ntmps279
 go_wp2
 go_loopw [7] (fun i wr => ∃ k n : Nat, k ≤ L.length ∧ i = .int .i64 k ∧ wr = w.drewN n ∧ ∀ j, j < k → ∀ p, L[j]? = some p → p.1 ≠ a) (fun i _ => L.length - (intOf i).toNat)
 case atStart => exact ⟨0, 0, Nat.zero_le _, rfl, rfl, fun j hj => by omega⟩
 case round =>
  obtain ⟨k, n, hk, rfl, rfl, hno⟩ := hrel
  have HN := hid hno
  clear hno
  by_cases hlt : k < L.length
  ·obtain ⟨p, hp⟩ : ∃ p, L[k]? = some p := ⟨L[k], List.getElem?_eq_getElem hlt⟩
   obtain ⟨gb, rfl, c0, c1, c2⟩ := HC.out k p hp
   have HP := hid hp
   clear hp
   by_cases ha : p.1 = a
   ·have hd : decide (p.1 = a) = true := by simpa using ha
    go_wp2
    go_quiet (fail)
    go_wp2
    go_ret
    refine ⟨k, rfl, ?_⟩
    rw [World.drewN_drewN]
    exact HF.out k p.2 _ gb rfl (by rw [HP.out, ← ha]) HN.out
   ·have hd : decide (p.1 = a) = false := by simpa using ha
    go_wp2
    go_quiet (fail)
    go_wp2
    go_roundw
    case rel => exact ⟨k + 1, n + nq, hlt, by go_num, rfl, fun j hj q hq => by
     rcases Nat.lt_or_ge j k with h | h
     ·exact HN.out j h q hq
     ·obtain rfl : j = k := by omega
      rw [HP.out] at hq
      cases hq
      exact ha⟩
    case measure => simp [intOf]; omega
  ·obtain rfl : k = L.length := by omega
   have hnot : a ∉ L.map (·.1) := by
    intro hm
    obtain ⟨p, hp, he⟩ := List.mem_map.1 hm
    obtain ⟨j, hj⟩ := List.getElem?_of_mem hp
    exact HN.out j (List.getElem?_eq_some_iff.1 hj).1 p hj he
   have hcn : cntOf L a = 0 := cnt_none fun p hp => by
    obtain ⟨j, hj⟩ := List.getElem?_of_mem hp
    exact HN.out j (List.getElem?_eq_some_iff.1 hj).1 p hj
   obtain ⟨X, hX⟩ : ∃ X, w.drewN n = X := ⟨_, rfl⟩
   obtain ⟨Y, hY⟩ : ∃ Y, X.drew = Y := ⟨_, rfl⟩
   have hXh : Y.heap = w.heap := by rw [← hY, ← hX]; rfl
   have hvX : Y.ownsRow 0 386 4 (.slice av L.length cv) L.length (tcells nm L) := own_same HV.out fun k _ => by rw [hXh]
   have hgX : Y.heap[g]? = some (rgoalO nm ty (.slice av L.length cv)) := by rw [hXh]; exact HX.out
   have lgX : g < Y.heap.size := by rw [hXh]; exact lg
   have hkX : Keeps (fun k => k = g ∨ (Value.slice av L.length cv).ownBlock = some k) w Y := by rw [← hY, ← hX]; exact ⟨rfl, rfl, rfl, Nat.le_refl _, fun _ _ _ => rfl⟩
   have hsX : Y.heap.size = w.heap.size := by rw [hXh]
   obtain ⟨_, x1, _, _, x4, _⟩ := cells6 hgX
   have y1 : ∀ o, (Y.alloc o).cell? ⟨g, 1, none⟩ = some (.string nm) := fun o => (((Below.refl _ Y).alloc (Nat.le_refl _) o).cell (p := ⟨g, 1, none⟩) lgX).trans x1
   have y4 : ∀ o, (Y.alloc o).cell? ⟨g, 4, none⟩ = some (.slice av L.length cv) := fun o => (((Below.refl _ Y).alloc (Nat.le_refl _) o).cell (p := ⟨g, 4, none⟩) lgX).trans x4
   have HEND : Hid (∀ o w6 g6 c6, w6.ownsRow 0 386 4 (.slice (some ⟨g6, 0, none⟩) (L.length + 1) c6) (L.length + 1) (tcells nm L ++ [.string nm, .string ⟨#[]⟩, .int .i64 a, .int .i64 0]) → Lies (Y.alloc o) w6 (.slice av L.length cv) g6 →
     w6.cell? ⟨g, 4, none⟩ = some (.slice av L.length cv) ∧ w6.frozen? ⟨g, 4, none⟩ = false ∧ w6.cell? ⟨g, 1, none⟩ = some (.string nm) ∧
     (w6.setCell ⟨g, 4, none⟩ (.slice (some ⟨g6, 0, none⟩) (L.length + 1) c6)).cell? ⟨g, 1, none⟩ = some (.string nm) ∧ (w6.setCell ⟨g, 4, none⟩ (.slice (some ⟨g6, 0, none⟩) (L.length + 1) c6)).cell? ⟨g, 4, none⟩ = some (.slice (some ⟨g6, 0, none⟩) (L.length + 1) c6) ∧
     ∀ u, u = Value.int .i64 (L.length : Nat) → ∃ i : Nat, Ending.returned u = .returned (.int .i64 i) ∧ TimesR g nm ty (.slice av L.length cv) L a w (w6.setCell ⟨g, 4, none⟩ (.slice (some ⟨g6, 0, none⟩) (L.length + 1) c6)) i) := by
    intro o w6 g6 c6 r6 L6
    have e5 : (Y.alloc o).heap[g]? = some (rgoalO nm ty (.slice av L.length cv)) := (Below.heap_alloc Y o g lgX).trans hgX
    have e6 : w6.heap[g]? = some (rgoalO nm ty (.slice av L.length cv)) := (L6.1.block g (by simp; omega) hvg).trans e5
    have e7 : (w6.setCell ⟨g, 4, none⟩ (.slice (some ⟨g6, 0, none⟩) (L.length + 1) c6)).heap[g]? = some (rgoalO nm ty (.slice (some ⟨g6, 0, none⟩) (L.length + 1) c6)) := by
     have := heap_setCell_same w6 g 4 _ 226 (.slice (some ⟨g6, 0, none⟩) (L.length + 1) c6) e6
     simpa using this
    refine ⟨(cells6 e6).2.2.2.2.1, frozen_of_row _ g 4 _ 226 e6, (cells6 e6).2.1, (cells6 e7).2.1, (cells6 e7).2.2.2.2.1, fun u hu => ⟨L.length, by rw [hu], g6, c6, L ++ [(a, 0)], ?_⟩⟩
    rw [List.length_append, List.length_cons, List.length_nil, Nat.zero_add]
    refine ⟨e7, ?_, ?_, ?_, .inr ⟨rfl, hnot⟩, ?_, ?_⟩
    ·rw [tcells_snoc]
     refine own_same r6 fun k e => Below.heap_setCell _ _ _ _ ?_
     rintro rfl
     exact own_far r6 e6 (by decide) e.symm
    ·rw [hcn, List.getElem?_append_right (Nat.le_refl _)]; simp
    ·intro j hj p hp
     rw [List.getElem?_append_left hj] at hp
     exact HN.out j hj p hp
    ·exact ((hkX.alloc o).grown L6.1 (fun j e => .inl (.inr e))).set (.inl (.inl rfl)) 4 _
    ·rcases L6.2.1 with h | ⟨h, _⟩
     ·exact .inl h
     ·exact .inr (by simp at h; omega)
   rw [hX]
   clear hX hXh hgX hkX hcn hnot hsX
   have x1' : X.drew.cell? ⟨g, 1, none⟩ = some (.string nm) := by rw [hY]; exact x1
   have x4' : X.cell? ⟨g, 4, none⟩ = some (.slice av L.length cv) := by have : X.drew.cell? ⟨g, 4, none⟩ = some (.slice av L.length cv) := (by rw [hY]; exact x4); exact this
   clear g1 g4
   go_wp2
   refine wp_region_held_drew (S := fun w' => w'.cell? ⟨g, 1, none⟩ = some (.string nm)) (by kernel_rfl) x1' (fun hS => ?_)
   rw [hY] at hS ⊢
   clear x1' x4'
   refine tkS (i := 0) (v := .pointer (some ⟨g, 0, none⟩)) rfl hS ?_
   refine tkS (i := 1) (v := .pointer (some ⟨g, 0, none⟩)) rfl hS ?_
   refine tkS (i := 2) (v := .pointer (some ⟨g, 0, none⟩)) rfl hS ?_
   refine tkS (i := 3) (v := .pointer (some ⟨g, 4, none⟩)) rfl hS ?_
   refine tkS (i := 5) (v := .pointer (some ⟨g, 0, none⟩)) rfl hS ?_
   refine tkS (i := 6) (v := .pointer (some ⟨g, 0, none⟩)) rfl hS ?_
   refine tkS (i := 7) (v := .pointer (some ⟨g, 1, none⟩)) rfl hS ?_
   refine tkY (i := 8) (v := .string nm) rfl (Or.inl ⟨by rfl, fun w' hw => by have hw1 : w'.cell? ⟨g, 1, none⟩ = some (.string nm) := hw; go_simp⟩) hS ?_
   refine tkS (i := 9) (v := .string ⟨#[]⟩) rfl hS ?_
   refine tkS (i := 10) (v := .int .i64 a) rfl hS ?_
   refine tkS (i := 11) (v := .agg #[.string nm, .string ⟨#[]⟩, .int .i64 a, .int .i64 0]) rfl hS ?_
   refine wpAnyH_ready (rs := [4, 12]) (by kernel_rfl) (by simp) ?_
   refine AllReadyH.cons rfl (fun K hK => ?_) (AllReadyH.cons rfl (fun K hK => ?_) AllReadyH.nil)
   ·go_simp
    refine hK.out _ _ hS fun hS => ?_
    refine wpAnyH_ready (rs := [12]) (by kernel_rfl) (by simp) ?_
    refine AllReadyH.cons rfl (fun K hK => ?_) AllReadyH.nil
    go_simp
    refine hK.out _ _ (y1 _) fun hS => ?_
    refine wpAnyH_ready (rs := [13]) (by kernel_rfl) (by simp) ?_
    refine AllReadyH.cons rfl (fun K hK => ?_) AllReadyH.nil
    refine step_append_two _ rfl _ _ 224 rfl 0 386 i0 (.agg #[.string ByteArray.empty, .string ByteArray.empty, .int .i64 0, .int .i64 0]) 4 48 hu224 hi0 hz0 hz1 hz2 rfl (.slice av L.length cv) _ _ rfl (own_same hvX (fun k e => Below.heap_alloc Y _ k (hvX.lt k e).2)) ⟨Y.heap.size, 0, none⟩ 1 1 [.string nm, .string ⟨#[]⟩, .int .i64 a, .int .i64 0] rfl rfl (World.news_of_block (Go.heap_alloc_new _ _)) (by intro u hu; simp at hu; rcases hu with rfl | rfl | rfl | rfl <;> rfl) (by decide) (room48 _ hL).1 (room48 _ hL).2 (Nat.zero_le _) ?_
    intro g6 c6 w6 r6 o6 L6
    have HE := HEND.out _ w6 g6 c6 r6 L6
    clear r6 o6 L6
    obtain ⟨e1, e2, e3, e4, e5, e6⟩ := HE
    refine hK.out _ _ e3 fun hS => ?_
    refine tkS (i := 14) (v := .pointer (some ⟨g, 0, none⟩)) rfl hS ?_
    refine tkS (i := 15) (v := .pointer (some ⟨g, 4, none⟩)) rfl hS ?_
    refine wpAnyH_ready (rs := [16]) (by kernel_rfl) (by simp) ?_
    refine AllReadyH.cons rfl (fun K hK => ?_) AllReadyH.nil
    go_simp
    refine hK.out _ _ e4 fun hS => ?_
    refine wpAnyH_done (by kernel_rfl) ?_ _
    clear e1 e2 e3 hS
    go_wp2
    go_ret
    exact e6 _ (by go_num)
   ·go_simp
    refine hK.out _ _ (y1 _) fun hS => ?_
    refine wpAnyH_ready (rs := [4]) (by kernel_rfl) (by simp) ?_
    refine AllReadyH.cons rfl (fun K hK => ?_) AllReadyH.nil
    go_simp
    refine hK.out _ _ hS fun hS => ?_
    refine wpAnyH_ready (rs := [13]) (by kernel_rfl) (by simp) ?_
    refine AllReadyH.cons rfl (fun K hK => ?_) AllReadyH.nil
    refine step_append_two _ rfl _ _ 224 rfl 0 386 i0 (.agg #[.string ByteArray.empty, .string ByteArray.empty, .int .i64 0, .int .i64 0]) 4 48 hu224 hi0 hz0 hz1 hz2 rfl (.slice av L.length cv) _ _ rfl (own_same hvX (fun k e => Below.heap_alloc Y _ k (hvX.lt k e).2)) ⟨Y.heap.size, 0, none⟩ 1 1 [.string nm, .string ⟨#[]⟩, .int .i64 a, .int .i64 0] rfl rfl (World.news_of_block (Go.heap_alloc_new _ _)) (by intro u hu; simp at hu; rcases hu with rfl | rfl | rfl | rfl <;> rfl) (by decide) (room48 _ hL).1 (room48 _ hL).2 (Nat.zero_le _) ?_
    intro g6 c6 w6 r6 o6 L6
    have HE := HEND.out _ w6 g6 c6 r6 L6
    clear r6 o6 L6
    obtain ⟨e1, e2, e3, e4, e5, e6⟩ := HE
    refine hK.out _ _ e3 fun hS => ?_
    refine tkS (i := 14) (v := .pointer (some ⟨g, 0, none⟩)) rfl hS ?_
    refine tkS (i := 15) (v := .pointer (some ⟨g, 4, none⟩)) rfl hS ?_
    refine wpAnyH_ready (rs := [16]) (by kernel_rfl) (by simp) ?_
    refine AllReadyH.cons rfl (fun K hK => ?_) AllReadyH.nil
    go_simp
    refine hK.out _ _ e4 fun hS => ?_
    refine wpAnyH_done (by kernel_rfl) ?_ _
    clear e1 e2 e3 hS
    go_wp2
    go_ret
    exact e6 _ (by go_num)
end Go.Proofs.YtefdokkadckbbaaGreatDoor
end
