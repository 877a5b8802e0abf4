/- P6 P7 P8 P9 -/
import Derived.Test.YtefdokkadckbbaaGreatDoorZ35
section
namespace Go.Proofs.YtefdokkadckbbaaGreatDoor
open Go.RowKit Go.MapKept Go.Maps
set_option maxRecDepth 100000
set_option maxHeartbeats 4000000 in
theorem rwork_end (x : Nat) (F : Nat → Prop) (s : Rs) (vt : Value) (b : Tb) (t : Tk) (k n : Nat) (w : World) (hC : PRc w F x s vt) (hP : PTk w b t) (hd : ¬ F b.tb) (hs : RsOk s k n) (ht : TkOk t k) (hG : Good w) (hn : n ≤ 33554432) (hx : nextS s.hs s.tr t = none) :
  Calls Tryz.prog 54 #[.pointer (some ⟨x, 0, none⟩), .pointer (some ⟨b.tb, 0, none⟩)] w fun e w' => e = .returned (.bool false) ∧ ∃ F', PRc w' F' x (workS s t).1 vt ∧ Keeps F w w' ∧ (∀ j, F j → F' j) ∧ (∀ j, F' j → F j ∨ w.heap.size ≤ j) := by
 have hnx := hx
 obtain ⟨hb, hc, mp, av, ar, cv, cr, hX, hI, hM, hv, hvF, hr, hrF, HB⟩ := hC.world
 obtain ⟨l1, l2, l3, l4⟩ := hP.lt
 have lx := hC.lt x hC.own
 obtain ⟨c0, c1, c2, c3, c4, c5, c6, c7, _⟩ := cells12 hX
 have HW : Hid (Calls Tryz.prog 100 #[.pointer (some ⟨b.tb, 0, none⟩), wV (.slice (some ⟨hb, 0, none⟩) s.hs.length hc) s.en s.tr s.pa s.mx mp s.now s.nid] w fun e w' => (∃ (aa as_ am : Option Addr) (ca cs cm : Nat), e = .returned (stepV true 0 t.id true 2 t.nm t.ty (.slice aa 0 ca) (.slice as_ 0 cs) (.slice am 0 cm))) ∧ Below w.heap.size w w') := work_end b t _ s.hs s.en s.tr s.pa s.mx s.now s.nid mp k w hP ht hM hG hI hs.hs.2 (hint_wf hs) hs.tr.2 hnx
 go_enter Tryz.func54, Tryz.ntmps54
 go_upto_region 2 with (go_at_call 100; refine HW.out.mono ?_; rintro e w1 ⟨⟨aa, as_, am, ca, cs, cm, rfl⟩, hk1⟩)
 obtain ⟨W2, hW2⟩ : ∃ W2, w1.alloc (stepO true 0 t.id true 2 t.nm t.ty (.slice aa 0 ca) (.slice as_ 0 cs) (.slice am 0 cm)) = W2 := ⟨_, rfl⟩
 have hz1 := hk1.size
 have hb2 : Below w1.heap.size w1 W2 := by rw [← hW2]; exact (Below.refl _ _).alloc (Nat.le_refl _) _
 have e2 : W2.heap[w1.heap.size]? = some (stepO true 0 t.id true 2 t.nm t.ty (.slice aa 0 ca) (.slice as_ 0 cs) (.slice am 0 cm)) := by rw [← hW2]; exact World.alloc_heap_new w1 _
 have hB2 : Below w.heap.size w W2 := hk1.trans (hb2.mono hz1)
 have hX2 := (hB2.block x lx).trans hX
 have hkF : ∀ j, F j → W2.heap[j]? = w.heap[j]? := fun j hj => hB2.block j (hC.lt j hj)
 have hv2 := own_same hv fun j e => hkF j (hvF j e)
 have hr2 := own_same hr fun j e => hkF j (hrF j e)
 have hG2 : Good W2 := hG.below hB2
 obtain ⟨⟨xa, xs, xm, xca, xcs, xcm, xgc, wn, wt, wz, wi, wa, q1⟩, _⟩ := id hP
 have qn : W2.cell? ⟨b.tb, 0, none⟩ = some (.int .i64 t.num) := by rw [cell_blk ((hB2.block _ l1).trans q1)]; rfl
 obtain ⟨G, hGd⟩ : ∃ G : Nat → Prop, G = fun k => k = x ∨ (Value.slice ar s.replies.length cr).ownBlock = some k := ⟨_, rfl⟩
 have hGF : ∀ k, k = x ∨ (Value.slice ar s.replies.length cr).ownBlock = some k → G k := fun k hk => by rw [hGd]; exact hk
 have HS : Hid (Calls Tryz.prog 67 #[.pointer (some ⟨x, 0, none⟩), .int .i64 t.num, .agg #[.int .i64 t.id, .bool true, .int .i64 2, .string t.nm, .int .i64 t.ty, .slice aa 0 ca, .slice as_ 0 cs, .slice am 0 cm]] W2.drew fun e w' => e = .returned (.tuple #[]) ∧ ∃ g c,
   w'.heap[x]? = some (resO (.slice (some ⟨hb, 0, none⟩) s.hs.length hc) s.en s.tr s.pa s.mx mp s.now s.nid vt s.asked (.slice av s.sent.length cv) (.slice (some ⟨g, 0, none⟩) (s.replies.length + 1) c)) ∧ w'.ownsRow 0 66 2 (.slice (some ⟨g, 0, none⟩) (s.replies.length + 1) c) (s.replies.length + 1) (pcells (s.replies ++ [(t.num, rB t.id 2 t.nm t.ty)])) ∧
   Keeps (fun k => k = x ∨ (Value.slice ar s.replies.length cr).ownBlock = some k) W2.drew w' ∧ ((Value.slice ar s.replies.length cr).ownBlock = some g ∨ W2.drew.heap.size ≤ g)) :=
  rtell_any x mp _ _ _ _ _ _ _ _ _ _ ar cr s.replies t.id t.num 2 t.nm t.ty aa as_ am ca cs cm W2.drew hX2 hr2 hG2 (fun e => hC.zero (e ▸ hC.own)) (fun e => hC.zero (hrF 0 e)) (by have := nameOk_size _ ht.nm; rw [tl_length] at this; omega) (by have := hs.replies; omega)
 have hS0 : Keeps G W2 W2.drew := (Keeps.refl _ _).drew
 have hl2 : w1.heap.size < W2.heap.size := (Array.getElem?_eq_some_iff.1 e2).1
 have HF : ∀ w', Keeps G W2 w' → (w'.cell? ⟨w1.heap.size, 0, none⟩ = some (.bool true) ∧ w'.cell? ⟨w1.heap.size, 1, none⟩ = some (.int .i64 0) ∧ w'.cell? ⟨w1.heap.size, 2, none⟩ = some (.int .i64 t.id) ∧ w'.cell? ⟨w1.heap.size, 3, none⟩ = some (.bool true) ∧ w'.cell? ⟨w1.heap.size, 4, none⟩ = some (.int .i64 2) ∧ w'.cell? ⟨w1.heap.size, 5, none⟩ = some (.string t.nm) ∧ w'.cell? ⟨w1.heap.size, 6, none⟩ = some (.int .i64 t.ty) ∧ w'.cell? ⟨w1.heap.size, 7, none⟩ = some (.slice aa 0 ca) ∧ w'.cell? ⟨w1.heap.size, 8, none⟩ = some (.slice as_ 0 cs) ∧ w'.cell? ⟨w1.heap.size, 9, none⟩ = some (.slice am 0 cm)) ∧ w'.cell? ⟨b.tb, 0, none⟩ = some (.int .i64 t.num) := fun w' hw =>
  ⟨cells10 ((hw.block _ hl2 (by rw [hGd]; rintro (h | h); omega; have := (hr.lt _ h).2; omega)).trans e2), (World.cell?_of_block (w := W2) (a := ⟨b.tb, 0, none⟩) (hw.block b.tb (by omega) (by rw [hGd]; rintro (h | h); exact hd (h ▸ hC.own); exact hd (hrF _ h)))).trans qn⟩
 have HK : Hid (∀ w3, Keeps (fun k => k = x ∨ (Value.slice ar s.replies.length cr).ownBlock = some k) W2.drew w3 → w3.cell? ⟨w1.heap.size, 0, none⟩ = some (.bool true)) := fun w3 hk3 => (HF w3 (hS0.then hk3 (fun j hj => .inl (hGF j hj)))).1.1
 have f0 : W2.cell? ⟨w1.heap.size, 0, none⟩ = some (.bool true) := (cells10 e2).1
 have HE : Hid (∀ w3 g c, w3.heap[x]? = some (resO (.slice (some ⟨hb, 0, none⟩) s.hs.length hc) s.en s.tr s.pa s.mx mp s.now s.nid vt s.asked (.slice av s.sent.length cv) (.slice (some ⟨g, 0, none⟩) (s.replies.length + 1) c)) → w3.ownsRow 0 66 2 (.slice (some ⟨g, 0, none⟩) (s.replies.length + 1) c) (s.replies.length + 1) (pcells (s.replies ++ [(t.num, rB t.id 2 t.nm t.ty)])) →
   Keeps (fun k => k = x ∨ (Value.slice ar s.replies.length cr).ownBlock = some k) W2.drew w3 → ((Value.slice ar s.replies.length cr).ownBlock = some g ∨ W2.drew.heap.size ≤ g) → Ending.returned (.bool false) = .returned (.bool false) ∧ ∃ F', PRc w3 F' x (workS s t).1 vt ∧ Keeps F w w3 ∧ (∀ j, F j → F' j) ∧ (∀ j, F' j → F j ∨ w.heap.size ≤ j)) := by
  intro w3 g c hX3 hv3 hk3 hg3
  have hz2 := hb2.size
  have hz3 : W2.heap.size ≤ w3.heap.size := hk3.size
  have hgl : g < w3.heap.size := (hv3.lt g rfl).2
  have hvr : ∀ j, (Value.slice av s.sent.length cv).ownBlock = some j → (Value.slice ar s.replies.length cr).ownBlock ≠ some j := fun j e e' => by
   obtain ⟨c1, h1⟩ := own_blk hv e
   obtain ⟨c2, h2⟩ := own_blk hr e'
   exact kind_ne h1 h2 (by decide) rfl
  have hvx : ∀ j, (Value.slice av s.sent.length cv).ownBlock = some j → j ≠ x := fun j e => by rintro rfl; exact own_far hv hX (by decide) e.symm
  have hw : workS s t = ({ s with replies := s.replies ++ [(t.num, rB t.id 2 t.nm t.ty)] }, []) := by unfold workS; rw [hnx]
  refine ⟨rfl, fun j => F j ∨ j = g, ?_, ?_, fun j hj => .inl hj, ?_⟩
  ·rw [hw]
   refine HB w3 _ _ s.asked s.now vt _ _ s.sent _ s.tasks (by omega) ?_ (fun j hj => .inl hj) ?_ ?_ hX3 ?_ (fun j e => .inl (hvF j e)) (by simpa using hv3) (fun j e => by simp [Value.ownBlock] at e; exact .inr e.symm)
   ·intro j hj hjx _ hjr
    exact (hk3.block j (by have := hC.lt j hj; show j < W2.heap.size; omega) (by rintro (h | h); exact hjx h; exact hjr h)).trans (hkF j hj)
   ·rintro j (hj | rfl)
    ·have := hC.lt j hj; omega
    ·exact hgl
   ·rintro (h | h)
    ·exact hC.zero h
    ·rcases hg3 with h' | h'
     ·exact hC.zero (hrF 0 (h ▸ h'))
     ·have : W2.heap.size ≤ g := h'; omega
   ·exact own_same hv2 fun j e => hk3.block j (hv2.lt j e).2 (by rintro (h | h); exact hvx j e h; exact hvr j e h)
  ·refine (keeps_of_below hB2).drew.then hk3 ?_
   rintro j (h | h)
   ·exact .inl (h ▸ hC.own)
   ·exact .inl (hrF j h)
  ·rintro j (hj | rfl)
   ·exact .inl hj
   ·rcases hg3 with h' | h'
    ·exact .inl (hrF _ h')
    ·exact .inr (by have : W2.heap.size ≤ _ := h'; omega)
 rw [hW2]
 clear hW2 c0 c1 c2 c3 c4 c5 c6 c7
 go_wp2_with fail
 refine wp_region_held_drew (S := fun w' => Keeps G W2 w') (by kernel_rfl) hS0 (fun hS => ?_)
 refine tkS (i := 0) (v := .pointer (some ⟨x, 0, none⟩)) rfl hS ?_
 refine tkS (i := 1) (v := .pointer (some ⟨b.tb, 0, none⟩)) rfl hS ?_
 refine tkS (i := 2) (v := .pointer (some ⟨b.tb, 0, none⟩)) rfl hS ?_
 refine tkS (i := 3) (v := .pointer (some ⟨b.tb, 0, none⟩)) rfl hS ?_
 refine tkY (i := 4) (v := .int .i64 t.num) rfl (Or.inl ⟨by rfl, fun w' hw => by obtain ⟨⟨g0, g1, g2, g3, g4, g5, g6, g7, g8, g9⟩, n0⟩ := HF w' hw; go_simp⟩) hS ?_
 refine tkS (i := 5) (v := .pointer (some ⟨w1.heap.size, 2, none⟩)) rfl hS ?_
 refine tkY (i := 6) (v := .agg #[.int .i64 t.id, .bool true, .int .i64 2, .string t.nm, .int .i64 t.ty, .slice aa 0 ca, .slice as_ 0 cs, .slice am 0 cm]) rfl (Or.inl ⟨by rfl, fun w' hw => by obtain ⟨⟨g0, g1, g2, g3, g4, g5, g6, g7, g8, g9⟩, n0⟩ := HF w' hw; go_simp⟩) hS ?_
 refine wpAnyH_ready (rs := [7]) (by kernel_rfl) (by simp) ?_
 refine AllReadyH.cons rfl (fun K hK => ?_) AllReadyH.nil
 go_simp
 refine HS.out.mono ?_
 rintro e w3 ⟨rfl, g, c, hX3, hv3, hk3, hg3⟩
 have b0 := HK.out w3 hk3
 refine hK.out _ _ (hS0.then hk3 (fun j hj => .inl (hGF j hj))) fun hS => ?_
 refine wpAnyH_done (by kernel_rfl) ?_ _
 go_wp2
 go_ret
 exact ⟨rfl, (HE.out w3 g c hX3 hv3 hk3 hg3).2⟩
end Go.Proofs.YtefdokkadckbbaaGreatDoor
end
section
namespace Go.Proofs.YtefdokkadckbbaaGreatDoor
open Go.RowKit Go.MapKept Go.Maps
set_option maxRecDepth 100000
set_option maxHeartbeats 1000000 in
theorem overdue_any (x : Nat) (vh : Value) (en tr pa mx : Int) (mp : Nat) (now nid : Int) (vt : Value) (asked : Int) (vs vr : Value) (b : Tb) (t : Tk) (k : Nat) (w : World) (hx : w.heap[x]? = some (resO vh en tr pa mx mp now nid vt asked vs vr)) (hP : PTk w b t) (ht : TkOk t k) (hk : k ≤ 1073741824) (hn : 0 ≤ now ∧ now ≤ 1073741824) :
  Calls Tryz.prog 53 #[.pointer (some ⟨x, 0, none⟩), .pointer (some ⟨b.tb, 0, none⟩)] w fun e w' => e = .returned (.bool (decide (pa ≤ now - t.at_))) ∧ w' = w.drew := by
 obtain ⟨c0, c1, c2, c3, c4, c5, c6, c7, _⟩ := cells12 hx
 have hb : -4611686018427387904 ≤ now - t.at_ ∧ now - t.at_ ≤ 4611686018427387904 := by have := ht.at_; omega
 have HW : Hid (∀ w, PTk w b t → Calls Tryz.prog 99 #[.pointer (some ⟨b.tb, 0, none⟩), .int .i64 now] w fun e w' => e = .returned (.int .i64 (now - t.at_)) ∧ w' = w) := fun w h => waited_any b t now w h hb
 have hPd : PTk w.drew b t := hP.same rfl rfl rfl rfl
 clear c0 c1 c2 c4 c5 c7
 have HF : ∀ w', w' = w.drew → w'.cell? ⟨x, 6, none⟩ = some (.int .i64 now) ∧ w'.cell? ⟨x, 3, none⟩ = some (.int .i64 pa) := fun w' hw => by subst hw; exact ⟨c6, c3⟩
 clear c6 c3
 go_enter Tryz.func53, Tryz.ntmps53
 go_wp2
 refine wp_region_held_drew (S := fun w' => w' = w.drew) (by kernel_rfl) rfl (fun hS => ?_)
 refine tkS (i := 0) (v := .pointer (some ⟨b.tb, 0, none⟩)) rfl hS ?_
 refine tkS (i := 1) (v := .pointer (some ⟨x, 0, none⟩)) rfl hS ?_
 refine tkS (i := 2) (v := .pointer (some ⟨x, 0, none⟩)) rfl hS ?_
 refine tkS (i := 3) (v := .pointer (some ⟨x, 0, none⟩)) rfl hS ?_
 refine tkS (i := 4) (v := .pointer (some ⟨x, 6, none⟩)) rfl hS ?_
 refine tkY (i := 5) (v := .int .i64 now) rfl (Or.inl ⟨by rfl, fun w' hw => by have h6 := (HF w' hw).1; have h3 := (HF w' hw).2; go_simp⟩) hS ?_
 refine tkS (i := 7) (v := .pointer (some ⟨x, 0, none⟩)) rfl hS ?_
 refine tkS (i := 8) (v := .pointer (some ⟨x, 0, none⟩)) rfl hS ?_
 refine tkS (i := 9) (v := .pointer (some ⟨x, 0, none⟩)) rfl hS ?_
 refine tkS (i := 10) (v := .pointer (some ⟨x, 0, none⟩)) rfl hS ?_
 refine tkS (i := 11) (v := .pointer (some ⟨x, 3, none⟩)) rfl hS ?_
 refine tkY (i := 12) (v := .int .i64 pa) rfl (Or.inl ⟨by rfl, fun w' hw => by have h6 := (HF w' hw).1; have h3 := (HF w' hw).2; go_simp⟩) hS ?_
 refine wpAnyH_ready (rs := [6]) (by kernel_rfl) (by simp) ?_
 refine AllReadyH.cons rfl (fun K hK => ?_) AllReadyH.nil
 go_simp
 refine (HW.out _ hPd).mono ?_
 rintro e w1 ⟨rfl, hw1⟩
 refine hK.out _ _ hw1 fun hS => ?_
 refine tkS (i := 13) (v := .bool (decide (pa ≤ now - t.at_))) rfl hS ?_
 refine wpAnyH_ready (rs := [14]) (by kernel_rfl) (by simp) ?_
 refine AllReadyH.cons rfl (fun K hK => ?_) AllReadyH.nil
 go_simp
 refine hK.out _ _ rfl fun hS => ?_
 refine wpAnyH_done (by kernel_rfl) ?_ _
 go_wp2
 go_ret
 exact ⟨rfl, rfl⟩
end Go.Proofs.YtefdokkadckbbaaGreatDoor
end
section
namespace Go.Proofs.YtefdokkadckbbaaGreatDoor
open Go.RowKit Go.MapKept Go.Maps
set_option maxRecDepth 100000
theorem infoT : (Tryz.prog.info? 126).map (fun i => (i.zero, i.size, i.bytes)) = some (some (.pointer none), 1, 8) := by kernel_rfl
theorem u123 : Tryz.prog.underlying 123 = some (.slice 126) := by kernel_rfl
theorem getElem_snoc {α : Type} {l : List α} {a b : α} {i : Nat} (h : (l ++ [a])[i]? = some b) : l[i]? = some b ∨ (i = l.length ∧ a = b) := by
 by_cases hi : i < l.length
 ·left; rwa [List.getElem?_append_left hi] at h
 ·right
  rw [List.getElem?_append_right (by omega)] at h
  have : i - l.length = 0 := by
   cases hz : i - l.length with
   | zero => rfl
   | succ n => rw [hz] at h; simp at h
  rw [this] at h
  simp at h
  exact ⟨by omega, h⟩
theorem PTs.snoc {W W' : World} {G : Nat → Prop} {vt vt' : Value} {ts : List Tk} {bs : List Tb} {b : Tb} {t : Tk} (h : PTs W G vt ts bs) (hz : W.heap.size ≤ W'.heap.size) (hk : ∀ k, G k → vt.ownBlock ≠ some k → W'.heap[k]? = W.heap[k]?) (hP : PTk W' b t) (hd : ¬ G b.tb ∧ ¬ G b.m) (hb0 : b.tb ≠ 0 ∧ b.gb ≠ 0 ∧ b.g ≠ 0 ∧ b.m ≠ 0)
  (row : W'.ownsRow 0 126 1 vt' (ts.length + 1) ((bs.map fun b : Tb => Value.pointer (some ⟨b.tb, 0, none⟩)) ++ [.pointer (some ⟨b.tb, 0, none⟩)])) (hv0 : vt'.ownBlock ≠ some 0) :
  PTs W' (fun k => G k ∨ k = b.tb ∨ k = b.gb ∨ k = b.g ∨ k = b.m ∨ vt'.ownBlock = some k) vt' (ts ++ [t]) (bs ++ [b]) := by
 have hrow : ∀ c ∈ bs, vt.ownBlock ≠ some c.tb ∧ vt.ownBlock ≠ some c.gb ∧ vt.ownBlock ≠ some c.g ∧ vt.ownBlock ≠ some c.m := by
  intro c hc
  obtain ⟨i, hi⟩ := List.mem_iff_getElem?.1 hc
  have hil : i < ts.length := by rw [← h.len]; exact (List.getElem?_eq_some_iff.1 hi).1
  obtain ⟨⟨aa, as_, am, ca, cs, cm, gc, wn, wt, wz, wi, wa, q1⟩, ⟨cur, q2, q3⟩, q4, ⟨f, ⟨es, ck, q5, _⟩, _⟩⟩ := h.task i c ts[i] hi (List.getElem?_eq_getElem hil)
  refine ⟨fun e => own_far h.row q1 (by decide) e.symm, fun e => own_far h.row q2 (by decide) e.symm, fun e => own_far h.row q4 (by decide) e.symm, fun e => ?_⟩
  obtain ⟨c', hc'⟩ := own_blk h.row e
  rw [q5] at hc'; cases hc'
 refine ⟨?_, fun k e => .inr (.inr (.inr (.inr (.inr e)))), by simp [h.len], ?_, ?_, ?_, ?_, ?_⟩
 ·simp only [List.length_append, List.length_cons, List.length_nil, List.map_append, List.map_cons, List.map_nil]
  exact row
 ·intro i c u hc hu
  rcases getElem_snoc hc with hc | ⟨hi, rfl⟩
  ·rcases getElem_snoc hu with hu | ⟨hj, rfl⟩
   ·have hm := List.mem_of_getElem? hc
    obtain ⟨o1, o2, o3, o4⟩ := h.own c hm
    obtain ⟨r1, r2, r3, r4⟩ := hrow c hm
    exact (h.task i c u hc hu).same (hk _ o1 r1) (hk _ o2 r2) (hk _ o3 r3) (hk _ o4 r4)
   ·have := (List.getElem?_eq_some_iff.1 hc).1
    rw [h.len] at this; omega
  ·rcases getElem_snoc hu with hu | ⟨hj, rfl⟩
   ·have := (List.getElem?_eq_some_iff.1 hu).1
    rw [h.len] at hi; omega
   ·exact hP
 ·intro c hc
  rcases List.mem_append.1 hc with hc | hc
  ·obtain ⟨o1, o2, o3, o4⟩ := h.own c hc
   exact ⟨.inl o1, .inl o2, .inl o3, .inl o4⟩
  ·simp only [List.mem_singleton] at hc
   subst hc
   exact ⟨.inr (.inl rfl), .inr (.inr (.inl rfl)), .inr (.inr (.inr (.inl rfl))), .inr (.inr (.inr (.inr (.inl rfl))))⟩
 ·have hn := h.nodup
  constructor
  ·rw [List.map_append, List.nodup_append]
   refine ⟨hn.1, by simp, ?_⟩
   intro a ha c hc
   simp at hc
   obtain ⟨d, hd', rfl⟩ := List.mem_map.1 ha
   rintro rfl
   exact hd.1 (hc ▸ (h.own d hd').1)
  ·rw [List.map_append, List.nodup_append]
   refine ⟨hn.2, by simp, ?_⟩
   intro a ha c hc
   simp at hc
   obtain ⟨d, hd', rfl⟩ := List.mem_map.1 ha
   rintro rfl
   exact hd.2 (hc ▸ (h.own d hd').2.2.2)
 ·rintro k (hk' | rfl | rfl | rfl | rfl | hk')
  ·exact Nat.lt_of_lt_of_le (h.lt k hk') hz
  ·exact hP.lt.1
  ·exact hP.lt.2.1
  ·exact hP.lt.2.2.1
  ·exact hP.lt.2.2.2
  ·exact (row.lt k hk').2
 ·rintro (hk' | h' | h' | h' | h' | hk')
  ·exact h.zero hk'
  ·exact hb0.1 h'.symm
  ·exact hb0.2.1 h'.symm
  ·exact hb0.2.2.1 h'.symm
  ·exact hb0.2.2.2 h'.symm
  ·exact hv0 hk'
theorem rwork_any (x : Nat) (F : Nat → Prop) (s : Rs) (vt : Value) (b : Tb) (t : Tk) (k n : Nat) (w : World) (hC : PRc w F x s vt) (hP : PTk w b t) (hd : ¬ F b.tb ∧ ¬ F b.gb ∧ ¬ F b.g ∧ ¬ F b.m) (hs : RsOk s k n) (ht : TkOk t k) (hG : Good w) (h0 : b.tb ≠ 0 ∧ b.m ≠ 0) (hn : n ≤ 33554432) :
  Calls Tryz.prog 54 #[.pointer (some ⟨x, 0, none⟩), .pointer (some ⟨b.tb, 0, none⟩)] w fun e w' => e = .returned (.bool (!(workS s t).2.isEmpty)) ∧ ∃ F', PRc w' F' x (workS s t).1 vt ∧ Keeps (fun j => F j ∨ j = b.tb ∨ j = b.m) w w' ∧ (∀ j, F j → F' j) ∧ (∀ j, F' j → F j ∨ w.heap.size ≤ j) ∧ ∀ t' ∈ (workS s t).2, PTk w' b t' := by
 cases hx : nextS s.hs s.tr t with
 | some a =>
  refine (rwork_send x F s vt b t k n a w hC hP hd hs ht hG h0 hn hx).mono ?_
  rintro e w' ⟨rfl, F', h1, h2, h3, h4, h5⟩
  have hw : (workS s t).2 = [triedS s.now t a] := by unfold workS; rw [hx]
  exact ⟨by rw [hw]; rfl, F', h1, h3, h4, h5, fun t' ht' => by rw [hw] at ht'; simp at ht'; rw [ht']; exact h2⟩
 | none =>
  refine (rwork_end x F s vt b t k n w hC hP hd.1 hs ht hG hn hx).mono ?_
  rintro e w' ⟨rfl, F', h1, h2, h3, h4⟩
  have hw : (workS s t).2 = [] := by unfold workS; rw [hx]
  exact ⟨by rw [hw]; rfl, F', h1, h2.mono fun j hj => .inl hj, h3, h4, fun t' ht' => by rw [hw] at ht'; cases ht'⟩
theorem work_two (s : Rs) (t : Tk) : (workS s t).2 = [] ∨ ∃ t', (workS s t).2 = [t'] := by
 unfold workS
 cases nextS s.hs s.tr t with
 | some a => exact .inr ⟨_, rfl⟩
 | none => exact .inl rfl
set_option maxHeartbeats 4000000 in
theorem rbegin_any (x : Nat) (F : Nat → Prop) (s : Rs) (b : Tb) (t : Tk) (k n : Nat) (w : World) (hR : PRs w F x s) (hP : PTk w b t) (hd : ¬ F b.tb ∧ ¬ F b.gb ∧ ¬ F b.g ∧ ¬ F b.m) (hs : RsOk s k n) (ht : TkOk t k) (hG : Good w) (h0 : b.tb ≠ 0 ∧ b.gb ≠ 0 ∧ b.g ≠ 0 ∧ b.m ≠ 0) (hn : n ≤ 33554432) :
  Calls Tryz.prog 65 #[.pointer (some ⟨x, 0, none⟩), .pointer (some ⟨b.tb, 0, none⟩)] w fun e w' => e = .returned (.tuple #[]) ∧ ∃ F', PRs w' F' x { (workS s t).1 with tasks := s.tasks ++ (workS s t).2 } ∧ Keeps (fun j => F j ∨ j = b.tb ∨ j = b.m) w w' ∧ (∀ j, F' j → F j ∨ w.heap.size ≤ j ∨ j = b.tb ∨ j = b.gb ∨ j = b.g ∨ j = b.m) := by
 obtain ⟨C, G, vt, bs, hC, hT, hCG, hF⟩ := hR.ex
 have dC : ∀ j, ¬ F j → ¬ C j := fun j hj hc => hj ((hF j).2 (.inl hc))
 have dG : ∀ j, ¬ F j → ¬ G j := fun j hj hc => hj ((hF j).2 (.inr hc))
 obtain ⟨bw, hbw⟩ : ∃ bw, bw = !(workS s t).2.isEmpty := ⟨_, rfl⟩
 have HW : Hid (Calls Tryz.prog 54 #[.pointer (some ⟨x, 0, none⟩), .pointer (some ⟨b.tb, 0, none⟩)] w fun e w' => e = .returned (.bool bw) ∧ ∃ F', PRc w' F' x (workS s t).1 vt ∧ Keeps (fun j => C j ∨ j = b.tb ∨ j = b.m) w w' ∧ (∀ j, C j → F' j) ∧ (∀ j, F' j → C j ∨ w.heap.size ≤ j) ∧ ∀ t' ∈ (workS s t).2, PTk w' b t') :=
  hbw ▸ rwork_any x C s vt b t k n w hC hP ⟨dC _ hd.1, dC _ hd.2.1, dC _ hd.2.2.1, dC _ hd.2.2.2⟩ hs ht hG ⟨h0.1, h0.2.2.2⟩ hn
 obtain ⟨a, c, rfl⟩ := own_val hT.row
 obtain ⟨i0, hi0, hz0, hz1, hz2⟩ := info_parts infoT
 have hu123 := u123
 have h8 := hs.tasks
 have HG : Hid (∀ w1, Keeps (fun j => C j ∨ j = b.tb ∨ j = b.m) w w1 → ∀ j, G j → w1.heap[j]? = w.heap[j]?) := fun w1 hk1 j hj => hk1.block j (hT.lt j hj) (by rintro (h | h | h); exact hCG j h hj; exact dG _ hd.1 (h ▸ hj); exact dG _ hd.2.2.2 (h ▸ hj))
 have hKF : ∀ {w1}, Keeps (fun j => C j ∨ j = b.tb ∨ j = b.m) w w1 → Keeps (fun j => F j ∨ j = b.tb ∨ j = b.m) w w1 := fun h => h.mono fun j hj => by
  rcases hj with h | h
  ·exact .inl ((hF j).2 (.inl h))
  ·exact .inr h
 rcases work_two s t with hw2 | ⟨t', hw2⟩
 ·obtain rfl : bw = false := by rw [hbw, hw2]; rfl
  clear hbw
  go_enter Tryz.func65, Tryz.ntmps65
  go_wp2_with (go_at_call 54; refine HW.out.mono ?_; rintro e w1 ⟨rfl, C1, hC1, hk1, hm1, hn1, _⟩)
  go_end0
  have hz1' := hk1.size
  refine ⟨rfl, fun j => C1 j ∨ G j, ⟨C1, G, _, bs, ⟨hC1.ex, hC1.own, hC1.lt, hC1.zero⟩, ?_, ?_, fun j => Iff.rfl⟩, hKF hk1, ?_⟩
  ·rw [hw2, List.append_nil]
   exact hT.same hz1' (HG.out w1 hk1)
  ·intro j hj hg
   rcases hn1 j hj with h | h
   ·exact hCG j h hg
   ·have := hT.lt j hg; omega
  ·rintro j (hj | hj)
   ·rcases hn1 j hj with h | h
    ·exact .inl ((hF j).2 (.inl h))
    ·exact .inr (.inl h)
   ·exact .inl ((hF j).2 (.inr hj))
 ·obtain rfl : bw = true := by rw [hbw, hw2]; rfl
  clear hbw
  go_enter Tryz.func65, Tryz.ntmps65
  go_upto_region 1 with (go_at_call 54; refine HW.out.mono ?_; rintro e w1 ⟨rfl, C1, hC1, hk1, hm1, hn1, hP1⟩)
  obtain ⟨hb, hc, mp, av, ar, cv, cr, hX1, _, _, hv, hvF, hr, hrF, HB⟩ := hC1.world
  have hzw := hk1.size
  have lx := hC1.lt x hC1.own
  have hP1' : PTk w1 b t' := hP1 t' (by rw [hw2]; simp)
  have hT1 := hT.same hzw (HG.out w1 hk1)
  have c8 : w1.cell? ⟨x, 8, none⟩ = some (.slice a s.tasks.length c) := by rw [cell_blk hX1]; rfl
  have hrow := hT1.row
  have hdis : ∀ j, C1 j → ¬ G j := fun j hj hg => by
   rcases hn1 j hj with h | h
   ·exact hCG j h hg
   ·have := hT.lt j hg; omega
  have HEND : Hid (∀ o g6 c6 w6, w6.ownsRow 0 126 1 (.slice (some ⟨g6, 0, none⟩) (s.tasks.length + 1) c6) (s.tasks.length + 1) ((bs.map fun b : Tb => Value.pointer (some ⟨b.tb, 0, none⟩)) ++ [.pointer (some ⟨b.tb, 0, none⟩)]) → Lies (w1.alloc o) w6 (.slice a s.tasks.length c) g6 → (w6.cell? ⟨x, 8, none⟩ = some (.slice a s.tasks.length c) ∧ w6.frozen? ⟨x, 8, none⟩ = false) ∧
    ∃ F', PRs (w6.setCell ⟨x, 8, none⟩ (.slice (some ⟨g6, 0, none⟩) (s.tasks.length + 1) c6)) F' x { (workS s t).1 with tasks := s.tasks ++ (workS s t).2 } ∧ Keeps (fun j => F j ∨ j = b.tb ∨ j = b.m) w (w6.setCell ⟨x, 8, none⟩ (.slice (some ⟨g6, 0, none⟩) (s.tasks.length + 1) c6)) ∧ (∀ j, F' j → F j ∨ w.heap.size ≤ j ∨ j = b.tb ∨ j = b.gb ∨ j = b.g ∨ j = b.m)) := by
   intro o g6 c6 w6 r6 L6
   have hz6 : w1.heap.size ≤ w6.heap.size := by have := L6.1.size; simp at this; omega
   have hg6 : (Value.slice a s.tasks.length c).ownBlock = some g6 ∨ w1.heap.size ≤ g6 := by
    rcases L6.2.1 with h | ⟨h, _⟩
    ·exact .inl h
    ·exact .inr (by simp at h; omega)
   have h61 : ∀ j, j < w1.heap.size → (Value.slice a s.tasks.length c).ownBlock ≠ some j → w6.heap[j]? = w1.heap[j]? := fun j hj hne => (L6.1.block j (by simp; omega) (fun e => hne e.symm)).trans (Below.heap_alloc w1 o j hj)
   have hCv : ∀ j, C1 j → (Value.slice a s.tasks.length c).ownBlock ≠ some j := fun j hj e => hdis j hj (hT1.rowG j e)
   have hX6 := (h61 x lx (hCv x hC1.own)).trans hX1
   have hset : ∀ j, j ≠ x → (w6.setCell ⟨x, 8, none⟩ (.slice (some ⟨g6, 0, none⟩) (s.tasks.length + 1) c6)).heap[j]? = w6.heap[j]? := fun j hj => Below.heap_setCell _ _ _ _ hj
   have hxb : x ≠ b.tb ∧ x ≠ b.gb ∧ x ≠ b.g ∧ x ≠ b.m := by
    have hFx : F x := (hF x).2 (.inl hC.own)
    exact ⟨fun e => hd.1 (e ▸ hFx), fun e => hd.2.1 (e ▸ hFx), fun e => hd.2.2.1 (e ▸ hFx), fun e => hd.2.2.2 (e ▸ hFx)⟩
   have hvb : ∀ j, (Value.slice a s.tasks.length c).ownBlock = some j → j ≠ b.tb ∧ j ≠ b.gb ∧ j ≠ b.g ∧ j ≠ b.m := fun j e => by
    have hFj : F j := (hF j).2 (.inr (hT.rowG j e))
    exact ⟨fun e => hd.1 (e ▸ hFj), fun e => hd.2.1 (e ▸ hFj), fun e => hd.2.2.1 (e ▸ hFj), fun e => hd.2.2.2 (e ▸ hFj)⟩
   have hxG : ∀ j, G j → j ≠ x := fun j hj e => hdis x hC1.own (e ▸ hj)
   have hgx : g6 ≠ x := by
    rcases hg6 with h | h
    ·exact hxG g6 (hT1.rowG g6 h)
    ·omega
   obtain ⟨m1, m2, m3, m4⟩ := hP1'.lt
   refine ⟨⟨by rw [cell_blk hX6]; rfl, frozen_of_row _ x 8 _ 125 hX6⟩, fun j => C1 j ∨ (G j ∨ j = b.tb ∨ j = b.gb ∨ j = b.g ∨ j = b.m ∨ (Value.slice (some ⟨g6, 0, none⟩) (s.tasks.length + 1) c6).ownBlock = some j), ⟨C1, _, .slice (some ⟨g6, 0, none⟩) (s.tasks.length + 1) c6, bs ++ [b], ?_, ?_, ?_, fun j => Iff.rfl⟩, ?_, ?_⟩
   ·have := HB (w6.setCell ⟨x, 8, none⟩ (.slice (some ⟨g6, 0, none⟩) (s.tasks.length + 1) c6)) C1 (workS s t).1.nid (workS s t).1.asked (workS s t).1.now (.slice (some ⟨g6, 0, none⟩) (s.tasks.length + 1) c6) _ _ _ _ (s.tasks ++ (workS s t).2) (by simp; exact hz6) (fun j hj hjx _ _ => (hset j hjx).trans (h61 j (hC1.lt j hj) (hCv j hj))) (fun j hj => hj) (fun j hj => by have := hC1.lt j hj; simp; omega) hC1.zero (by
      have := heap_setCell_same w6 x 8 _ 125 (.slice (some ⟨g6, 0, none⟩) (s.tasks.length + 1) c6) hX6
      simpa using this) (own_same hv fun j e => (hset j (by rintro rfl; exact own_far hv hX1 (by decide) e.symm)).trans (h61 j (hv.lt j e).2 (hCv j (hvF j e)))) hvF (own_same hr fun j e => (hset j (by rintro rfl; exact own_far hr hX1 (by decide) e.symm)).trans (h61 j (hr.lt j e).2 (hCv j (hrF j e)))) hrF
    exact this
   ·rw [hw2]
    refine hT1.snoc (by simp; exact hz6) (fun j hj hne => (hset j (hxG j hj)).trans (h61 j (hT1.lt j hj) hne)) ?_ ⟨dG _ hd.1, dG _ hd.2.2.2⟩ h0 (own_same r6 fun j e => hset j (by simp [Value.ownBlock] at e; omega)) (by
      simp [Value.ownBlock]
      rcases hg6 with h | h
      ·rintro rfl; exact hT1.zero (hT1.rowG 0 h)
      ·rintro rfl; omega)
    exact hP1'.same ((hset _ hxb.1.symm).trans (h61 _ m1 (fun e => (hvb _ e).1 rfl))) ((hset _ hxb.2.1.symm).trans (h61 _ m2 (fun e => (hvb _ e).2.1 rfl))) ((hset _ hxb.2.2.1.symm).trans (h61 _ m3 (fun e => (hvb _ e).2.2.1 rfl))) ((hset _ hxb.2.2.2.symm).trans (h61 _ m4 (fun e => (hvb _ e).2.2.2 rfl)))
   ·obtain ⟨p1, p2, p3, p4⟩ := hP.lt
    have hCb : ∀ j, C1 j → j < w.heap.size → ¬ F j → False := fun j hj hl hf => by
     rcases hn1 j hj with hc | hc
     ·exact hf ((hF j).2 (.inl hc))
     ·omega
    rintro j hj (hg | rfl | rfl | rfl | rfl | h)
    ·exact hdis j hj hg
    ·exact hCb _ hj p1 hd.1
    ·exact hCb _ hj p2 hd.2.1
    ·exact hCb _ hj p3 hd.2.2.1
    ·exact hCb _ hj p4 hd.2.2.2
    ·simp [Value.ownBlock] at h
     subst h
     rcases hg6 with h | h
     ·exact hdis _ hj (hT1.rowG _ h)
     ·have := hC1.lt _ hj; omega
   ·refine ((hKF hk1).then ((keeps_of_below ((Below.refl _ w1).alloc (Nat.le_refl _) o)).grown (F := fun j => (Value.slice a s.tasks.length c).ownBlock = some j ∨ j = x) L6.1 fun j e => .inl (.inl e)) (by
      rintro j (e | rfl)
      ·exact .inl (.inl ((hF j).2 (.inr (hT.rowG j e))))
      ·exact .inl (.inl ((hF _).2 (.inl hC.own))))).set (.inl (.inl ((hF x).2 (.inl hC.own)))) 8 _
   ·rintro j (hj | hj | h | h | h | h | h)
    ·rcases hn1 j hj with h | h
     ·exact .inl ((hF j).2 (.inl h))
     ·exact .inr (.inl h)
    ·exact .inl ((hF j).2 (.inr hj))
    ·exact .inr (.inr (.inl h))
    ·exact .inr (.inr (.inr (.inl h)))
    ·exact .inr (.inr (.inr (.inr (.inl h))))
    ·exact .inr (.inr (.inr (.inr (.inr h))))
    ·simp [Value.ownBlock] at h
     subst h
     rcases hg6 with h | h
     ·exact .inl ((hF _).2 (.inr (hT.rowG _ h)))
     ·exact .inr (.inl (by omega))
  clear HB hT1
  go_wp2_with (at_builtin; refine wpList_append_two _ rfl _ _ 123 rfl 0 126 i0 (.pointer none) 1 8 hu123 hi0 hz0 hz1 hz2 rfl _ _ _ rfl (hrow.alloc _) ⟨w1.heap.size, 0, none⟩ 1 1 [.pointer (some ⟨b.tb, 0, none⟩)] rfl rfl (World.news_of_block (Go.heap_alloc_new _ _)) (by intro u hu; simp at hu; rw [hu]; rfl) (by decide) (by unfold maxLen; omega) (by omega) (Nat.zero_le _) ?_)
  intro g6 c6 w6 r6 o6 L6
  obtain ⟨⟨x8, x8f⟩, HE⟩ := HEND.out _ g6 c6 w6 r6 L6
  clear r6 o6 L6
  go_wp2
  go_end0
  exact ⟨rfl, HE⟩
end Go.Proofs.YtefdokkadckbbaaGreatDoor
end
section
namespace Go.Proofs.YtefdokkadckbbaaGreatDoor
open Go.RowKit Go.MapKept Go.Maps
set_option maxRecDepth 100000
theorem tickGo_nil (s : Rs) : tickGo s [] = (s, []) := rfl
theorem tickGo_yes {s : Rs} {t : Tk} {r : List Tk} (h : s.pa ≤ s.now - t.at_) : tickGo s (t :: r) = ((tickGo (workS s t).1 r).1, (workS s t).2 ++ (tickGo (workS s t).1 r).2) := by rw [tickGo, if_pos h]
theorem tickGo_no {s : Rs} {t : Tk} {r : List Tk} (h : ¬ s.pa ≤ s.now - t.at_) : tickGo s (t :: r) = ((tickGo s r).1, t :: (tickGo s r).2) := by rw [tickGo, if_neg h]
theorem tickGo_snoc_yes : ∀ (l : List Tk) (s : Rs) (t : Tk), (tickGo s l).1.pa ≤ (tickGo s l).1.now - t.at_ → tickGo s (l ++ [t]) = ((workS (tickGo s l).1 t).1, (tickGo s l).2 ++ (workS (tickGo s l).1 t).2)
 | [], s, t, h => by rw [List.nil_append, tickGo_yes (by exact h), tickGo_nil, tickGo_nil]; simp
 | u :: l, s, t, h => by
  by_cases hu : s.pa ≤ s.now - u.at_
  ·rw [tickGo_yes hu] at h ⊢
   rw [List.cons_append, tickGo_yes hu, tickGo_snoc_yes l _ t h]; simp
  ·rw [tickGo_no hu] at h ⊢
   rw [List.cons_append, tickGo_no hu, tickGo_snoc_yes l _ t h]; simp
theorem tickGo_snoc_no : ∀ (l : List Tk) (s : Rs) (t : Tk), ¬ (tickGo s l).1.pa ≤ (tickGo s l).1.now - t.at_ → tickGo s (l ++ [t]) = ((tickGo s l).1, (tickGo s l).2 ++ [t])
 | [], s, t, h => by rw [List.nil_append, tickGo_no (by exact h), tickGo_nil]; simp
 | u :: l, s, t, h => by
  by_cases hu : s.pa ≤ s.now - u.at_
  ·rw [tickGo_yes hu] at h ⊢
   rw [List.cons_append, tickGo_yes hu, tickGo_snoc_no l _ t h]; simp
  ·rw [tickGo_no hu] at h ⊢
   rw [List.cons_append, tickGo_no hu, tickGo_snoc_no l _ t h]; simp
theorem tickGo_same : ∀ (l : List Tk) (s : Rs), (tickGo s l).1.pa = s.pa ∧ (tickGo s l).1.now = s.now ∧ (tickGo s l).1.tasks = s.tasks
 | [], s => ⟨rfl, rfl, rfl⟩
 | u :: l, s => by
  simp only [tickGo]
  split
  ·obtain ⟨h1, h2, h3⟩ := tickGo_same l (workS s u).1
   obtain ⟨_, _, k1, k2, k3⟩ := work_same s u
   exact ⟨h1.trans k1, h2.trans k2, h3.trans k3⟩
  ·exact tickGo_same l s
abbrev tptr (b : Tb) : Value := .pointer (some ⟨b.tb, 0, none⟩)
structure TickI (w : World) (C G : Nat → Prop) (x : Nat) (vt : Value) (bs : List Tb) (ts : List Tk) (S : Rs) (L : List Tk) (m i : Nat) (wr : World) (vw : Value) (C' : Nat → Prop) (K : List (Tb × Tk)) : Prop where
 core : PRc wr C' x S vt
 mono : ∀ j, C j → C' j
 new : ∀ j, C' j → C j ∨ w.heap.size ≤ j
 keeps : Keeps (fun j => C j ∨ G j) w wr
 kept : K.map (·.2) = L
 sub : (K.map (·.1)).Sublist (bs.take m)
 task : ∀ p ∈ K, PTk wr p.1 p.2
 rest : ∀ (j : Nat) (b : Tb) (t : Tk), i ≤ j → bs[j]? = some b → ts[j]? = some t → PTk wr b t
 row : wr.ownsRow 0 126 1 vt ts.length (bs.map tptr)
 wait : wr.ownsRow 0 126 1 vw K.length (K.map fun p => tptr p.1)
 waitN : ∀ j, vw.ownBlock = some j → w.heap.size ≤ j ∧ ¬ C' j
section
variable {w wr w1 : World} {C G C' C1 : Nat → Prop} {x : Nat} {s1 : Rs} {vt vw : Value} {bs : List Tb} {ts : List Tk} {i : Nat} {K : List (Tb × Tk)} {b : Tb} {t : Tk}
theorem tb_apart {c : Tb} {u t' : Tk} (hG : ∀ j, G j → j < w.heap.size) (hCG : ∀ j, C j → ¬ G j) (hn : ∀ j, C' j → C j ∨ w.heap.size ≤ j) (hc : G c.tb ∧ G c.gb ∧ G c.g ∧ G c.m) (hk : Keeps (fun j => C' j ∨ j = b.tb ∨ j = b.m) wr w1) (hP : PTk wr c u) (hb : PTk wr b t') (h1 : c.tb ≠ b.tb) (h2 : c.m ≠ b.m) : PTk w1 c u := by
 have hC : ∀ j, G j → ¬ C' j := fun j hg hc => by
  rcases hn j hc with h | h
  ·exact hCG j h hg
  ·have := hG j hg; omega
 obtain ⟨m1, m2, m3, m4⟩ := hP.lt
 obtain ⟨⟨aa, as_, am, ca, cs, cm, gc, wn, wt, wz, wi, wa, q1⟩, ⟨cur, q2, q3⟩, q4, ⟨f, ⟨es, ck, q5, _⟩, _⟩⟩ := id hP
 obtain ⟨⟨_, _, _, _, _, _, _, _, _, _, _, _, r1⟩, _, _, ⟨f', ⟨es', ck', r5, _⟩, _⟩⟩ := id hb
 refine hP.same (hk.block _ m1 ?_) (hk.block _ m2 ?_) (hk.block _ m3 ?_) (hk.block _ m4 ?_)
 ·rintro (h | h | h)
  ·exact hC _ hc.1 h
  ·exact h1 h
  ·rw [h, r5] at q1; cases q1
 ·rintro (h | h | h)
  ·exact hC _ hc.2.1 h
  ·exact kind_ne q2 r1 (by decide) h
  ·rw [h, r5] at q2; cases q2
 ·rintro (h | h | h)
  ·exact hC _ hc.2.2.1 h
  ·exact kind_ne q4 r1 (by decide) h
  ·rw [h, r5] at q4; cases q4
 ·rintro (h | h | h)
  ·exact hC _ hc.2.2.2 h
  ·rw [h, r1] at q5; cases q5
  ·exact h2 h
theorem nodup_ne {α : Type} {l : List α} (h : l.Nodup) {i j : Nat} {a b : α} (hi : l[i]? = some a) (hj : l[j]? = some b) (hne : i ≠ j) : a ≠ b := by
 obtain ⟨hil, rfl⟩ := List.getElem?_eq_some_iff.1 hi
 obtain ⟨hjl, rfl⟩ := List.getElem?_eq_some_iff.1 hj
 rcases Nat.lt_or_gt_of_ne hne with hlt | hlt
 ·exact List.pairwise_iff_getElem.1 h i j hil hjl hlt
 ·exact (List.pairwise_iff_getElem.1 h j i hjl hil hlt).symm
variable {S : Rs} {L : List Tk} {m : Nat}
theorem sub_index {l : List Tb} {m : Nat} (h : l.Sublist (bs.take m)) {c : Tb} (hc : c ∈ l) : ∃ j, j < m ∧ bs[j]? = some c := by
 obtain ⟨j, hj⟩ := List.mem_iff_getElem?.1 (h.subset hc)
 rw [List.getElem?_take] at hj
 split at hj
 ·exact ⟨j, by assumption, hj⟩
 ·cases hj
theorem TickI.work (h : TickI w C G x vt bs ts S L i i wr vw C' K) (hT : PTs w G vt ts bs) (hCG : ∀ j, C j → ¬ G j) (hb : bs[i]? = some b) (ht : ts[i]? = some t) {S1 : Rs} (h1 : PRc w1 C1 x S1 vt) (hk : Keeps (fun j => C' j ∨ j = b.tb ∨ j = b.m) wr w1) (hm : ∀ j, C' j → C1 j) (hn : ∀ j, C1 j → C' j ∨ wr.heap.size ≤ j) :
  TickI w C G x vt bs ts S1 L i (i + 1) w1 vw C1 K := by
 have hz := h.keeps.size
 have hPb := h.rest i b t (Nat.le_refl _) hb ht
 have hob := hT.own b (List.mem_of_getElem? hb)
 have hoth : ∀ (j : Nat) (c : Tb) (u : Tk), j ≠ i → bs[j]? = some c → PTk wr c u → PTk w1 c u := fun j c u hj hc hP =>
  tb_apart (w := w) (C := C) (G := G) (C' := C') (b := b) hT.lt hCG h.new (hT.own c (List.mem_of_getElem? hc)) hk hP hPb
   (nodup_ne hT.nodup.1 (by rw [List.getElem?_map, hc]; rfl) (by rw [List.getElem?_map, hb]; rfl) hj)
   (nodup_ne hT.nodup.2 (by rw [List.getElem?_map, hc]; rfl) (by rw [List.getElem?_map, hb]; rfl) hj)
 have hnew : ∀ j, C1 j → C j ∨ w.heap.size ≤ j := fun j hj => by
  rcases hn j hj with h' | h'
  ·exact h.new j h'
  ·exact .inr (by omega)
 have hrow : ∀ j, vt.ownBlock = some j → w1.heap[j]? = wr.heap[j]? := fun j e => hk.block j (h.row.lt j e).2 (by
  rintro (h' | h' | h')
  ·rcases h.new j h' with h2 | h2
   ·exact hCG j h2 (hT.rowG j e)
   ·have := hT.lt j (hT.rowG j e); omega
  ·obtain ⟨⟨_, _, _, _, _, _, _, _, _, _, _, _, r1⟩, _⟩ := hPb
   exact own_far h.row r1 (by decide) (h' ▸ e.symm)
  ·obtain ⟨_, _, _, ⟨f', ⟨es', ck', r5, _⟩, _⟩⟩ := hPb
   obtain ⟨c', hc'⟩ := own_blk h.row e
   rw [h', r5] at hc'; cases hc')
 have hwait : ∀ j, vw.ownBlock = some j → w1.heap[j]? = wr.heap[j]? := fun j e => hk.block j (h.wait.lt j e).2 (by
  obtain ⟨e1, e2⟩ := h.waitN j e
  rintro (h' | h' | h')
  ·exact e2 h'
  ·have := hT.lt _ hob.1; omega
  ·have := hT.lt _ hob.2.2.2; omega)
 refine ⟨h1, fun j hj => hm j (h.mono j hj), hnew, ?_, h.kept, h.sub, ?_, ?_, own_same h.row hrow, own_same h.wait hwait, ?_⟩
 ·refine h.keeps.then hk ?_
  rintro j (h' | rfl | rfl)
  ·rcases h.new j h' with h2 | h2
   ·exact .inl (.inl h2)
   ·exact .inr h2
  ·exact .inl (.inr hob.1)
  ·exact .inl (.inr hob.2.2.2)
 ·intro p hp
  obtain ⟨j, hj, hc⟩ := sub_index h.sub (List.mem_map_of_mem (f := (·.1)) hp)
  exact hoth j p.1 p.2 (by omega) hc (h.task p hp)
 ·intro j c u hj hc hu
  exact hoth j c u (by omega) hc (h.rest j c u (by omega) hc hu)
 ·intro j e
  obtain ⟨e1, e2⟩ := h.waitN j e
  refine ⟨e1, fun hc => ?_⟩
  rcases hn j hc with h' | h'
  ·exact e2 h'
  ·have := (h.wait.lt j e).2; omega
theorem TickI.later (h : TickI w C G x vt bs ts S L i i wr vw C' K) : TickI w C G x vt bs ts S L i (i + 1) wr vw C' K :=
 ⟨h.core, h.mono, h.new, h.keeps, h.kept, h.sub, h.task, fun j c u hj hc hu => h.rest j c u (by omega) hc hu, h.row, h.wait, h.waitN⟩
theorem TickI.drew (h : TickI w C G x vt bs ts S L m i wr vw C' K) : TickI w C G x vt bs ts S L m i wr.drew vw C' K :=
 ⟨⟨h.core.ex, h.core.own, h.core.lt, h.core.zero⟩, h.mono, h.new, h.keeps.drew, h.kept, h.sub, fun p hp => (h.task p hp).same rfl rfl rfl rfl, fun j c u hj hc hu => (h.rest j c u hj hc hu).same rfl rfl rfl rfl, h.row, h.wait, h.waitN⟩
theorem TickI.skip (h : TickI w C G x vt bs ts S L i (i + 1) wr vw C' K) : TickI w C G x vt bs ts S L (i + 1) (i + 1) wr vw C' K :=
 ⟨h.core, h.mono, h.new, h.keeps, h.kept, h.sub.trans (List.take_sublist_take_left (by omega)), h.task, h.rest, h.row, h.wait, h.waitN⟩
theorem TickI.push (h : TickI w C G x vt bs ts S L i (i + 1) wr vw C' K) (hT : PTs w G vt ts bs) (hb : bs[i]? = some b) (hP : PTk wr b t) {o : Obj} {g6 c6 : Nat} {w6 : World}
  (r6 : w6.ownsRow 0 126 1 (.slice (some ⟨g6, 0, none⟩) (K.length + 1) c6) (K.length + 1) ((K.map fun p => tptr p.1) ++ [tptr b])) (L6 : Lies (wr.alloc o) w6 vw g6) :
  TickI w C G x vt bs ts S (L ++ [t]) (i + 1) (i + 1) w6 (.slice (some ⟨g6, 0, none⟩) (K.length + 1) c6) C' (K ++ [(b, t)]) := by
 have hz := h.keeps.size
 have hz6 : wr.heap.size ≤ w6.heap.size := by have := L6.1.size; simp at this; omega
 have hg6 : vw.ownBlock = some g6 ∨ wr.heap.size ≤ g6 := by
  rcases L6.2.1 with h | ⟨h, _⟩
  ·exact .inl h
  ·exact .inr (by simp at h; omega)
 have h61 : ∀ j, j < wr.heap.size → vw.ownBlock ≠ some j → w6.heap[j]? = wr.heap[j]? := fun j hj hne => (L6.1.block j (by simp; omega) (fun e => hne e.symm)).trans (Below.heap_alloc wr o j hj)
 have hold : ∀ j, j < w.heap.size → w6.heap[j]? = wr.heap[j]? := fun j hj => h61 j (by omega) (fun e => by have := (h.waitN j e).1; omega)
 have htk : ∀ (c : Tb) (u : Tk), G c.tb ∧ G c.gb ∧ G c.g ∧ G c.m → PTk wr c u → PTk w6 c u := fun c u hc hP => hP.same (hold _ (hT.lt _ hc.1)) (hold _ (hT.lt _ hc.2.1)) (hold _ (hT.lt _ hc.2.2.1)) (hold _ (hT.lt _ hc.2.2.2))
 refine ⟨h.core.same hz6 fun j hj => h61 j (h.core.lt j hj) (fun e => (h.waitN j e).2 hj), h.mono, h.new, ?_, by simp [h.kept], ?_, ?_, ?_, own_same h.row fun j e => hold j (hT.lt j (hT.rowG j e)), ?_, ?_⟩
 ·refine h.keeps.then ((keeps_of_below ((Below.refl _ wr).alloc (Nat.le_refl _) o)).grown (F := fun j => vw.ownBlock = some j) L6.1 fun j e => .inl e) ?_
  intro j e
  exact .inr (h.waitN j e).1
 ·rw [List.map_append, List.take_add_one, hb]
  exact h.sub.append (List.Sublist.refl _)
 ·intro p hp
  rcases List.mem_append.1 hp with hp | hp
  ·obtain ⟨j, hj, hc⟩ := sub_index h.sub (List.mem_map_of_mem (f := (·.1)) hp)
   exact htk p.1 p.2 (hT.own _ (List.mem_of_getElem? hc)) (h.task p hp)
  ·simp only [List.mem_singleton] at hp
   subst hp
   exact htk b t (hT.own b (List.mem_of_getElem? hb)) hP
 ·intro j c u hj hc hu
  exact htk c u (hT.own _ (List.mem_of_getElem? hc)) (h.rest j c u hj hc hu)
 ·simp only [List.length_append, List.length_cons, List.length_nil, List.map_append, List.map_cons, List.map_nil]
  exact r6
 ·intro j e
  simp [Value.ownBlock] at e
  subst e
  rcases hg6 with h' | h'
  ·exact h.waitN _ h'
  ·exact ⟨by omega, fun hc => by have := h.core.lt _ hc; omega⟩
theorem TickI.ends (h : TickI w C G x vt bs ts S L m i wr vw C' K) (hT : PTs w G vt ts bs) (h0 : 0 < w.heap.size) : PTs wr (fun j => vw.ownBlock = some j ∨ ∃ c ∈ K.map (·.1), j = c.tb ∨ j = c.gb ∨ j = c.g ∨ j = c.m) vw L (K.map (·.1)) := by
 have hlen : K.length = L.length := by rw [← h.kept, List.length_map]
 have hin : ∀ c ∈ K.map (·.1), c ∈ bs := fun c hc => by obtain ⟨j, _, hj⟩ := sub_index h.sub hc; exact List.mem_of_getElem? hj
 have hsub : (K.map (·.1)).Sublist bs := h.sub.trans (List.take_sublist _ _)
 refine ⟨?_, fun j e => .inl e, by rw [List.length_map, hlen], ?_, fun c hc => ⟨.inr ⟨c, hc, .inl rfl⟩, .inr ⟨c, hc, .inr (.inl rfl)⟩, .inr ⟨c, hc, .inr (.inr (.inl rfl))⟩, .inr ⟨c, hc, .inr (.inr (.inr rfl))⟩⟩, ⟨(hsub.map (·.tb)).nodup hT.nodup.1, (hsub.map (·.m)).nodup hT.nodup.2⟩, ?_, ?_⟩
 ·rw [← hlen, List.map_map]
  exact h.wait
 ·intro j c u hc hu
  rw [← h.kept] at hu
  rw [List.getElem?_map] at hc hu
  cases hp : K[j]? with
  | none => rw [hp] at hc; cases hc
  | some p =>
   rw [hp] at hc hu
   simp at hc hu
   subst hc; subst hu
   exact h.task p (List.mem_of_getElem? hp)
 ·rintro j (e | ⟨c, hc, hj⟩)
  ·exact (h.wait.lt j e).2
  ·obtain ⟨p, hp, rfl⟩ := List.mem_map.1 hc
   obtain ⟨m1, m2, m3, m4⟩ := (h.task p hp).lt
   rcases hj with rfl | rfl | rfl | rfl <;> assumption
 ·rintro (e | ⟨c, hc, hj⟩)
  ·have := (h.waitN 0 e).1
   omega
  ·obtain ⟨o1, o2, o3, o4⟩ := hT.own c (hin c hc)
   rcases hj with h' | h' | h' | h'
   ·exact hT.zero (h' ▸ o1)
   ·exact hT.zero (h' ▸ o2)
   ·exact hT.zero (h' ▸ o3)
   ·exact hT.zero (h' ▸ o4)
end
end Go.Proofs.YtefdokkadckbbaaGreatDoor
end
