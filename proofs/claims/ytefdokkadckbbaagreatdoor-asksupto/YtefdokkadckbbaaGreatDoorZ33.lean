/- Tx -/
import Derived.Test.YtefdokkadckbbaaGreatDoorZ32
import Derived.BigGuardPartIn
namespace Go.Proofs.YtefdokkadckbbaaGreatDoor
open Go.RowKit Go.Shelf Go.MapKept Go.Maps
attribute [local go_sem] Oper.semAt_some
set_option maxRecDepth 100000
set_option maxHeartbeats 40000000 in
theorem top_none (b : Tb) (t : Tk) (h : Value) (hs : List Int) (en tr pa mx now nid : Int) (mp k : Nat) (w : World) (hP : PTk w b t) (ht : TkOk t k) (hM : Mem0 w mp) (hG : Good w) (hh : IntSl w h hs) (h3 : hs.length ≤ 3) (hw : ∀ a ∈ hs, (Lit.int .i64 a).wf = true) (_htr : tr ≤ 3) (hf : hs.find? (fun a => decide (t.cnt a < tr)) = none) :
  Calls Tryz.prog 136 #[.pointer (some ⟨b.tb, 0, none⟩), wV h en tr pa mx mp now nid] w fun e w' => ∃ v, e = .returned (.tuple #[v, .bool true]) ∧ StepR hs tr now nid b t w v w' := by
 obtain ⟨⟨aa, as_, am, ca, cs, cm, gc, wn, wt, wz, wi, wa, q1⟩, ⟨cur, q2, q3⟩, q4, q5⟩ := id hP
 obtain ⟨n, hn3⟩ : ∃ n : Nat, 3 ≤ n := ⟨3, Nat.le_refl _⟩
 refine (callsIn_wide (n := n)).1 ?_
 obtain ⟨hsl, hc, rfl, hsg, hcc, hcell⟩ := id hh
 obtain ⟨X, hX, x0, x1, x2, x3, x4, x5⟩ := allocs4 w (.cells #[.pointer (some ⟨b.tb, 0, none⟩)] 126) (.cells #[.slice (some ⟨hsl, 0, none⟩) hs.length hc, .int .i64 en, .int .i64 tr, .int .i64 pa, .int .i64 mx, .pointer (some ⟨mp, 0, none⟩), .int .i64 now, .int .i64 nid] 122) zStepO (.cells #[.bool false] 4)
 have l1 : b.tb < w.heap.size := (Array.getElem?_eq_some_iff.1 q1).1
 have l2 : b.gb < w.heap.size := (Array.getElem?_eq_some_iff.1 q2).1
 have l4 : b.g < w.heap.size := (Array.getElem?_eq_some_iff.1 q4).1
 have y0 : X.cell? ⟨w.heap.size, 0, none⟩ = some (.pointer (some ⟨b.tb, 0, none⟩)) := by rw [cell_blk x0]; rfl
 have y1 : X.cell? ⟨b.tb, 9, none⟩ = some (.slice (some ⟨b.gb, 0, none⟩) 1 gc) := by rw [cell_blk ((x5.block _ l1).trans q1)]; rfl
 have y2 : X.cell? ⟨b.gb, 0, none⟩ = some (.pointer (some ⟨b.g, 0, none⟩)) := by rw [cell_blk ((x5.block _ l2).trans q2)]; exact q3
 have y3 : ∀ o, (X.alloc o).cell? ⟨w.heap.size, 0, none⟩ = some (.pointer (some ⟨b.tb, 0, none⟩)) := fun o => (((Below.refl _ X).alloc (Nat.le_refl _) o).cell (p := ⟨w.heap.size, 0, none⟩) (show w.heap.size < X.heap.size by omega)).trans y0
 have y4 : ∀ o, (X.alloc o).cell? ⟨b.tb, 9, none⟩ = some (.slice (some ⟨b.gb, 0, none⟩) 1 gc) := fun o => (((Below.refl _ X).alloc (Nat.le_refl _) o).cell (p := ⟨b.tb, 9, none⟩) (show b.tb < X.heap.size by omega)).trans y1
 have y5 : ∀ o, (X.alloc o).cell? ⟨b.gb, 0, none⟩ = some (.pointer (some ⟨b.g, 0, none⟩)) := fun o => (((Below.refl _ X).alloc (Nat.le_refl _) o).cell (p := ⟨b.gb, 0, none⟩) (show b.gb < X.heap.size by omega)).trans y2
 refine callsIn_of_wp_marks Tryz.func136 rfl trivial ?_ rfl
 simp only [Tryz.ntmps136, List.size_toArray, List.length_cons, List.length_nil, Nat.reduceAdd, Nat.reduceSub, Array.replicate_succ, Array.replicate_zero, List.push_toArray, List.append_toArray, List.nil_append, List.cons_append]
 gi_big_wp2
 gi_region
 obtain ⟨Y, hY⟩ : ∃ Y, (X.alloc (Obj.cells #[.pointer (some ⟨b.g, 0, none⟩)] 197)).drew = Y := ⟨_, rfl⟩
 have hbY : Below X.heap.size X Y := by rw [← hY]; exact ((Below.refl _ _).alloc (Nat.le_refl _) _).drew
 have zY : Y.heap.size = w.heap.size + 5 := by rw [← hY]; show (X.alloc _).heap.size = _; simp [x4]
 have g6 : Y.heap[w.heap.size + 4]? = some (.cells #[.pointer (some ⟨b.g, 0, none⟩)] 197 (0, 0)) := by rw [← hY, ← x4]; exact World.alloc_heap_new X _
 have b0 := (hbY.block _ (by omega)).trans x0
 have b1 := (hbY.block _ (by omega)).trans x1
 have b2 := (hbY.block _ (by omega)).trans x2
 have b3 := (hbY.block _ (by omega)).trans x3
 have hBY : Below w.heap.size w Y := x5.trans (hbY.mono (by omega))
 have y6 : Y.cell? ⟨w.heap.size + 4, 0, none⟩ = some (.pointer (some ⟨b.g, 0, none⟩)) := by rw [cell_blk g6]; rfl
 have y7 : Y.cell? ⟨w.heap.size, 0, none⟩ = some (.pointer (some ⟨b.tb, 0, none⟩)) := by rw [cell_blk b0]; rfl
 obtain ⟨u0, u1, u2, u3, u4, u5, u6, u7⟩ := cells8 b1
 have hnm : t.nm.size ≤ maxLen := by have := nameOk_size _ ht.nm; rw [tl_length] at this; unfold maxLen; omega
 have hty : (Lit.int .i64 t.ty).wf = true := wf_size (by have := ht.ty; omega) (by have := ht.ty; omega)
 have hMY := hM.below hBY
 have cg1 : Y.cell? ⟨b.g, 1, none⟩ = some (.string t.nm) := by rw [cell_blk ((hBY.block _ l4).trans q4)]; rfl
 have cg2 : Y.cell? ⟨b.g, 2, none⟩ = some (.int .i64 t.ty) := by rw [cell_blk ((hBY.block _ l4).trans q4)]; rfl
 have lgY : b.g < Y.heap.size := by omega
 clear y0 y1 y2 y3 y4 y5
 rw [hY]
 clear hY x0 x1 x2 x3
 gi_big_wp2_with (refine ⟨trivial, fun h => (by cases h), ?_⟩; gi_at_call 182; refine (callsIn_wide.2 (recall_none b.g mp _ en tr pa mx now nid t.ty t.nm _ hMY lgY cg1 cg2 hnm hty)).mono ?_; rintro e w1 ⟨rfl, hb1⟩)
 have z1 := hb1.size
 obtain ⟨V, hV⟩ : ∃ V, w1.alloc (Obj.cells #[.int .i64 0, .slice none 0 0] 287) = V := ⟨_, rfl⟩
 have hbV : Below Y.heap.size Y V := by rw [← hV]; exact hb1.alloc hb1.size _
 have zV : w1.heap.size < V.heap.size := by rw [← hV]; simp
 have hBV : Below w.heap.size w V := hBY.trans (hbV.mono (by omega))
 have v0 := (hbV.block _ (by omega)).trans b0
 have v1 := (hbV.block _ (by omega)).trans b1
 have v2 := (hbV.block _ (by omega)).trans b2
 have v3 := (hbV.block _ (by omega)).trans b3
 have v4 := (hbV.block _ (by omega)).trans g6
 rw [hV]
 clear hV y6 y7 u0 u1 u2 u3 u4 u5 u6 u7 cg1 cg2 b0 b1 b2 b3 g6
 obtain ⟨u0, u1, u2, u3, u4, u5, u6, u7⟩ := cells8 v1
 have y6 : V.cell? ⟨w.heap.size + 4, 0, none⟩ = some (.pointer (some ⟨b.g, 0, none⟩)) := by rw [cell_blk v4]; rfl
 have cg1 : V.cell? ⟨b.g, 1, none⟩ = some (.string t.nm) := by rw [cell_blk ((hBV.block _ l4).trans q4)]; rfl
 have HF : ∀ w', Below V.heap.size V w' → (w'.cell? ⟨w.heap.size + 1, 0, none⟩ = some (.slice (some ⟨hsl, 0, none⟩) hs.length hc) ∧ w'.cell? ⟨w.heap.size + 1, 1, none⟩ = some (.int .i64 en) ∧ w'.cell? ⟨w.heap.size + 1, 2, none⟩ = some (.int .i64 tr) ∧ w'.cell? ⟨w.heap.size + 1, 3, none⟩ = some (.int .i64 pa) ∧ w'.cell? ⟨w.heap.size + 1, 4, none⟩ = some (.int .i64 mx) ∧ w'.cell? ⟨w.heap.size + 1, 5, none⟩ = some (.pointer (some ⟨mp, 0, none⟩)) ∧ w'.cell? ⟨w.heap.size + 1, 6, none⟩ = some (.int .i64 now) ∧ w'.cell? ⟨w.heap.size + 1, 7, none⟩ = some (.int .i64 nid)) ∧ w'.cell? ⟨w.heap.size + 4, 0, none⟩ = some (.pointer (some ⟨b.g, 0, none⟩)) ∧ w'.cell? ⟨b.g, 1, none⟩ = some (.string t.nm) := fun w' hb' =>
  ⟨cells8 ((hb'.block _ (by omega)).trans v1), (hb'.cell (p := ⟨w.heap.size + 4, 0, none⟩) (show w.heap.size + 4 < V.heap.size by omega)).trans y6, (hb'.cell (p := ⟨b.g, 1, none⟩) (show b.g < V.heap.size by omega)).trans cg1⟩
 have hmx : Tryz.prog.follows .mixedOrders = true := by kernel_rfl
 have hBd : Below V.heap.size V V.drew := (Below.refl _ _).drew
 obtain ⟨Z, hZ⟩ : ∃ Z, ((V.alloc (.cells #[.slice (some ⟨hsl, 0, none⟩) hs.length hc, .int .i64 en, .int .i64 tr, .int .i64 pa, .int .i64 mx, .pointer (some ⟨mp, 0, none⟩), .int .i64 now, .int .i64 nid] 122)).alloc (.cells #[.string t.nm] 9)).drew = Z := ⟨_, rfl⟩
 have hBZ : Below V.heap.size V Z := by rw [← hZ]; exact (((Below.refl _ _).alloc (Nat.le_refl _) _).alloc (by simp) _).drew
 have zZ : Z.heap.size = V.heap.size + 2 := by rw [← hZ]; show ((V.alloc _).alloc _).heap.size = _; simp
 have zw : Z.heap[V.heap.size]? = some (.cells #[.slice (some ⟨hsl, 0, none⟩) hs.length hc, .int .i64 en, .int .i64 tr, .int .i64 pa, .int .i64 mx, .pointer (some ⟨mp, 0, none⟩), .int .i64 now, .int .i64 nid] 122 (0, 0)) := by
  rw [← hZ]
  exact (Below.heap_alloc (V.alloc _) _ _ (by simp)).trans (World.alloc_heap_new V _)
 have zb : Z.heap[V.heap.size + 1]? = some (.cells #[.string t.nm] 9 (0, 0)) := by
  rw [← hZ]
  have := World.alloc_heap_new (V.alloc (.cells #[.slice (some ⟨hsl, 0, none⟩) hs.length hc, .int .i64 en, .int .i64 tr, .int .i64 pa, .int .i64 mx, .pointer (some ⟨mp, 0, none⟩), .int .i64 now, .int .i64 nid] 122)) (.cells #[.string t.nm] 9)
  rw [World.size_alloc] at this
  exact this
 have zc : Z.cell? ⟨V.heap.size + 1, 0, none⟩ = some (.string t.nm) := by rw [cell_blk zb]; rfl
 have hwZ : Below w.heap.size w Z := hBV.trans (hBZ.mono (by omega))
 refine region_on (S := fun w' => Below V.heap.size V w') hmx (by kernel_rfl) hBd fun hS => ?_
 refine tkY (i := 0) (v := wV (.slice (some ⟨hsl, 0, none⟩) hs.length hc) en tr pa mx mp now nid) rfl (Or.inl ⟨by rfl, fun w' hw => by obtain ⟨⟨i0, i1, i2, i3, i4, i5, i6, i7⟩, j6, k1⟩ := HF w' hw; go_simp⟩) hS ?_
 refine tkY (i := 1) (v := .pointer (some ⟨b.g, 0, none⟩)) rfl (Or.inl ⟨by rfl, fun w' hw => by obtain ⟨⟨i0, i1, i2, i3, i4, i5, i6, i7⟩, j6, k1⟩ := HF w' hw; go_simp⟩) hS ?_
 refine tkS (i := 2) (v := .pointer (some ⟨b.g, 0, none⟩)) rfl hS ?_
 refine tkS (i := 3) (v := .pointer (some ⟨b.g, 1, none⟩)) rfl hS ?_
 refine tkY (i := 4) (v := .string t.nm) rfl (Or.inl ⟨by rfl, fun w' hw => by obtain ⟨⟨i0, i1, i2, i3, i4, i5, i6, i7⟩, j6, k1⟩ := HF w' hw; go_simp⟩) hS ?_
 refine wpAnyH_ready (rs := [5]) (by kernel_rfl) (by simp) ?_
 refine AllReadyH.cons rfl (fun K hK => ?_) AllReadyH.nil
 go_simp
 refine (zones_any _ t.nm _ rfl).mono ?_
 rintro e w2 ⟨rfl, rfl⟩
 refine hK.out _ _ ((hBd.alloc (Nat.le_refl _) _).alloc (by show V.heap.size ≤ (V.alloc _).heap.size; simp) _) fun hS => ?_
 refine wpAnyH_done (by kernel_rfl) ?_ _
 unfold onlyOn
 gi_wp2
 clear hZ hS
 refine range_iterB (gf := 249) (fa := #[]) (lb := #[.pointer (some ⟨V.heap.size + 1, 0, none⟩), .pointer (some ⟨V.heap.size, 0, none⟩)]) rfl (enters_of Tryz.func249 (by kernel_rfl) rfl) (zones_iter _ en tr pa mx now nid mp t.nm Z (V.heap.size + 1) V.heap.size ht.nm (by omega) (by omega) zc zw (hM.below hwZ) (hG.below hwZ)) (Below.refl _ _) (fun _ => rfl)
  (fun pre => pre ≠ [] → nextS hs tr t = none)
  (fun c pre W' => c = .ret ∧ ∃ (ended : Bool) (addr id : Int) (rp : Bool) (code : Int) (nm : ByteArray) (ty : Int) (va vs vm : Value), W'.heap[w.heap.size + 2]? = some (stepO ended addr id rp code nm ty va vs vm) ∧ W'.heap[w.heap.size + 3]? = some (.cells #[.bool true] 4 (0, 0)) ∧ StepR hs tr now nid b t w (stepV ended addr id rp code nm ty va vs vm) W')
  ?low (fun h => absurd rfl h) (fun _ => .cells #[.string ⟨#[]⟩, .slice none 0 0] 295 (0, 0))
  (fun x bx => { tmps := #[.pointer (some ⟨b.tb, 0, none⟩), wV (.slice (some ⟨hsl, 0, none⟩) hs.length hc) en tr pa mx mp now nid, .pointer (some ⟨w.heap.size, 0, none⟩), .pointer (some ⟨w.heap.size + 1, 0, none⟩), .pointer (some ⟨w.heap.size + 1 + 1, 0, none⟩), .pointer (some ⟨w.heap.size + 1 + 1 + 1, 0, none⟩), .pointer (some ⟨w.heap.size + 4, 0, none⟩), .pointer (some ⟨w1.heap.size, 0, none⟩), .bool false, .pointer (some ⟨bx, 0, none⟩), undef, undef, undef, undef, .pointer (some ⟨b.tb, 0, none⟩), .pointer (some ⟨b.tb, 0, none⟩), .pointer (some ⟨b.tb, 9, none⟩), .slice (some ⟨b.gb, 0, none⟩) 1 gc, .pointer (some ⟨b.tb, 0, none⟩), .pointer (some ⟨b.tb, 0, none⟩), .pointer (some ⟨b.tb, 9, none⟩), .slice (some ⟨b.gb, 0, none⟩) 1 gc, .int .i64 1, .int .i64 0, .pointer (some ⟨b.gb, 0, none⟩), .pointer (some ⟨b.g, 0, none⟩), .tuple #[endV 0, .bool false], .pointer (some ⟨b.g, 0, none⟩), wV (.slice (some ⟨hsl, 0, none⟩) hs.length hc) en tr pa mx mp now nid, .tuple #[endV 0, .bool false], endV 0, .bool false, .bool false, undef, undef, undef, undef, undef, undef, undef, wV (.slice (some ⟨hsl, 0, none⟩) hs.length hc) en tr pa mx mp now nid, .pointer (some ⟨b.g, 0, none⟩), .pointer (some ⟨b.g, 0, none⟩), .pointer (some ⟨b.g, 1, none⟩), .string t.nm, .func (.func 249) #[] #[.pointer (some ⟨V.heap.size + 1, 0, none⟩), .pointer (some ⟨V.heap.size, 0, none⟩)], zoneV ⟨#[]⟩, undef, undef, undef, undef, undef, undef, undef, undef, undef, undef, undef, undef, undef, undef, undef, undef, undef, undef, undef, undef, undef, undef, undef, undef, undef, undef, undef, undef, undef, undef, undef, undef, undef, undef, undef, undef, undef, undef, undef, undef, undef, undef, undef, undef, undef, undef, undef, undef, undef, undef, undef], defers := [] }) ?assign ?body ?done ?stop
 case low =>
  rintro c pre A B' ⟨h1, ended, addr, id, rp, code, nm, ty, va, vs, vm, h2, h3, h4⟩ hb'
  exact ⟨h1, ended, addr, id, rp, code, nm, ty, va, vs, vm, (hb'.block _ (by omega)).trans h2, (hb'.block _ (by omega)).trans h3, h4.low hb' (by omega) ⟨by omega, by omega, by omega, by have := hP.lt.2.2.2; omega⟩⟩
 case assign =>
  intro l x W4 K hK
  gi_wp2
  exact hK _ ((Below.refl _ _).alloc (Nat.le_refl _) _) (World.alloc_heap_new _ _)
 case body =>
  intro l pre x rest bx W4 hxs hb4 hbx b5 hI
  obtain rfl : pre = [] := by
   have := congrArg List.length hxs
   simp at this
   exact List.eq_nil_of_length_eq_zero (by omega)
  have z4 := hb4.size
  have hB4 : Below w.heap.size w W4 := hwZ.trans (hb4.mono (by omega))
  have c0 := (hb4.block _ (by omega)).trans ((hBZ.block _ (by omega)).trans v0)
  have c1 := (hb4.block _ (by omega)).trans ((hBZ.block _ (by omega)).trans v1)
  have c2 : W4.heap[w.heap.size + 2]? = some zStepO := (hb4.block _ (by omega)).trans ((hBZ.block _ (by omega)).trans v2)
  have c3 : W4.heap[w.heap.size + 3]? = some (.cells #[.bool false] 4 (0, 0)) := (hb4.block _ (by omega)).trans ((hBZ.block _ (by omega)).trans v3)
  have c4 := (hb4.block _ (by omega)).trans ((hBZ.block _ (by omega)).trans v4)
  have e1 := (hB4.block _ l1).trans q1
  have e4 := (hB4.block _ l4).trans q4
  have k0 : W4.cell? ⟨w.heap.size, 0, none⟩ = some (.pointer (some ⟨b.tb, 0, none⟩)) := by rw [cell_blk c0]; rfl
  obtain ⟨i0, i1, i2, i3, i4, i5, i6, i7⟩ := cells8 c1
  have k4 : W4.cell? ⟨w.heap.size + 4, 0, none⟩ = some (.pointer (some ⟨b.g, 0, none⟩)) := by rw [cell_blk c4]; rfl
  have p0 : W4.cell? ⟨bx, 0, none⟩ = some (.string ⟨#[]⟩) := by rw [cell_blk b5]; rfl
  have p1 : W4.cell? ⟨bx, 1, none⟩ = some (.slice none 0 0) := by rw [cell_blk b5]; rfl
  have cg1 : W4.cell? ⟨b.g, 1, none⟩ = some (.string t.nm) := by rw [cell_blk e4]; rfl
  have cg2 : W4.cell? ⟨b.g, 2, none⟩ = some (.int .i64 t.ty) := by rw [cell_blk e4]; rfl
  have cg4 : W4.cell? ⟨b.g, 4, none⟩ = some (.map (some b.m)) := by rw [cell_blk e4]; rfl
  have hT4 : Tries W4 b.m t.nm t.cnt := q5.same (hB4.block _ q5.lt)
  have hh4 := hh.below hB4
  have lg4 : b.g < W4.heap.size := by omega
  have HU : Hid (Calls Tryz.prog 185 #[.pointer (some ⟨b.g, 0, none⟩), wV (.slice (some ⟨hsl, 0, none⟩) hs.length hc) en tr pa mx mp now nid, zoneV ⟨#[]⟩] W4 fun e w' => UntR (hs.find? (fun a => decide (t.cnt a < tr))) e ∧ Below W4.heap.size W4 w') := untried_any _ hs en tr pa mx now nid mp b.g b.m t.nm t.cnt W4 hh4 h3 hw lg4 cg1 cg4 hT4 hnm
  have HW : Hid (∀ w5, Below W4.heap.size W4 w5 → (∀ o, (w5.alloc o).cell? ⟨w.heap.size, 0, none⟩ = some (.pointer (some ⟨b.tb, 0, none⟩))) ∧ (∀ o, (w5.alloc o).cell? ⟨w.heap.size + 4, 0, none⟩ = some (.pointer (some ⟨b.g, 0, none⟩))) ∧ (∀ o, (w5.alloc o).cell? ⟨bx, 0, none⟩ = some (.string ⟨#[]⟩)) ∧ (∀ o, (w5.alloc o).cell? ⟨bx, 1, none⟩ = some (.slice none 0 0)) ∧
    (∀ o, (w5.alloc o).cell? ⟨w.heap.size + 1, 0, none⟩ = some (.slice (some ⟨hsl, 0, none⟩) hs.length hc)) ∧ (∀ o, (w5.alloc o).cell? ⟨w.heap.size + 1, 1, none⟩ = some (.int .i64 en)) ∧ (∀ o, (w5.alloc o).cell? ⟨w.heap.size + 1, 2, none⟩ = some (.int .i64 tr)) ∧ (∀ o, (w5.alloc o).cell? ⟨w.heap.size + 1, 3, none⟩ = some (.int .i64 pa)) ∧ (∀ o, (w5.alloc o).cell? ⟨w.heap.size + 1, 4, none⟩ = some (.int .i64 mx)) ∧ (∀ o, (w5.alloc o).cell? ⟨w.heap.size + 1, 5, none⟩ = some (.pointer (some ⟨mp, 0, none⟩))) ∧ (∀ o, (w5.alloc o).cell? ⟨w.heap.size + 1, 6, none⟩ = some (.int .i64 now)) ∧ (∀ o, (w5.alloc o).cell? ⟨w.heap.size + 1, 7, none⟩ = some (.int .i64 nid))) := by
   intro w5 hb5
   have hz5 := hb5.size
   have hA : ∀ (p : Addr) (v : Value), p.block < W4.heap.size → W4.cell? p = some v → ∀ o, (w5.alloc o).cell? p = some v := fun p v hp hv o => ((hb5.alloc hb5.size o).cell hp).trans hv
   have lx : bx < W4.heap.size := (Array.getElem?_eq_some_iff.1 b5).1
   exact ⟨hA _ _ (show w.heap.size < _ by omega) k0, hA _ _ (show w.heap.size + 4 < _ by omega) k4, hA _ _ lx p0, hA _ _ lx p1, hA _ _ (show w.heap.size + 1 < _ by omega) i0, hA _ _ (show w.heap.size + 1 < _ by omega) i1, hA _ _ (show w.heap.size + 1 < _ by omega) i2, hA _ _ (show w.heap.size + 1 < _ by omega) i3, hA _ _ (show w.heap.size + 1 < _ by omega) i4, hA _ _ (show w.heap.size + 1 < _ by omega) i5, hA _ _ (show w.heap.size + 1 < _ by omega) i6, hA _ _ (show w.heap.size + 1 < _ by omega) i7⟩
  have HU' : Hid (Calls Tryz.prog 185 #[.pointer (some ⟨b.g, 0, none⟩), wV (.slice (some ⟨hsl, 0, none⟩) hs.length hc) en tr pa mx mp now nid, zoneV ⟨#[]⟩] W4 fun e w' => UntR none e ∧ Below W4.heap.size W4 w') := hf ▸ HU.out
  have hnx : nextS hs tr t = none := by unfold nextS; split; rfl; exact hf
  have y9 : ∀ w5, Below W4.heap.size W4 w5 → ∀ o, (w5.alloc o).cell? ⟨b.tb, 9, none⟩ = some (.slice (some ⟨b.gb, 0, none⟩) 1 gc) := fun w5 hb5 o => ((hb5.alloc hb5.size o).cell (p := ⟨b.tb, 9, none⟩) (show b.tb < W4.heap.size by omega)).trans (by rw [cell_blk e1]; rfl)
  clear HU hI
  gi_big_wp2_with (first
   | (refine ⟨trivial, fun h => (by cases h), ?_⟩; gi_at_call 185; refine (callsIn_wide.2 HU'.out).mono ?_; rintro e w5 ⟨rfl, hb5⟩; obtain ⟨r0, r4, r5, r6, s0, s1, s2, s3, s4, s5, s6, s7⟩ := HW.out w5 hb5; have y8 := y9 w5 hb5)
   | (refine ⟨trivial, fun h => (by cases h), ?_⟩; gi_at_call 187; refine (callsIn_wide.2 (target_none b.tb b.g mp _ en tr pa mx now nid _ gc _ (by simp; have := hb5.size; omega) (y8 _))).mono ?_; rintro e w6 ⟨rfl, hb6⟩))
  have hb56 : Below W4.heap.size W4 (w5.alloc (.cells #[.string ⟨#[]⟩, .string ⟨#[]⟩, .int .i64 0] 297)) := hb5.alloc hb5.size _
  exact ⟨hb56.trans (hb6.mono hb56.size), fun _ => hnx⟩
 case done =>
  intro D W4 hD hb4 hI hK
  have hnx := hI (by simp)
  have z4 := hb4.size
  have hB4 : Below w.heap.size w W4 := hwZ.trans (hb4.mono (by omega))
  have c0 := (hb4.block _ (by omega)).trans ((hBZ.block _ (by omega)).trans v0)
  have c1 := (hb4.block _ (by omega)).trans ((hBZ.block _ (by omega)).trans v1)
  have c2 : W4.heap[w.heap.size + 1 + 1]? = some zStepO := (hb4.block _ (by omega)).trans ((hBZ.block _ (by omega)).trans v2)
  have c3 : W4.heap[w.heap.size + 1 + 1 + 1]? = some (.cells #[.bool false] 4 (0, 0)) := (hb4.block _ (by omega)).trans ((hBZ.block _ (by omega)).trans v3)
  have c4 := (hb4.block _ (by omega)).trans ((hBZ.block _ (by omega)).trans v4)
  have e1 := (hB4.block _ l1).trans q1
  have k0 : W4.cell? ⟨w.heap.size, 0, none⟩ = some (.pointer (some ⟨b.tb, 0, none⟩)) := by rw [cell_blk c0]; rfl
  obtain ⟨i0, i1, i2, i3, i4, i5, i6, i7⟩ := cells8 c1
  have k4 : W4.cell? ⟨w.heap.size + 4, 0, none⟩ = some (.pointer (some ⟨b.g, 0, none⟩)) := by rw [cell_blk c4]; rfl
  have HC : Hid (∀ W7, Below W4.heap.size W4 W7 → W7.heap[w.heap.size + 1 + 1]? = some zStepO ∧ W7.heap[w.heap.size + 1 + 1 + 1]? = some (.cells #[.bool false] 4 (0, 0)) ∧ W7.heap[D]? = some (.deferred (some []))) := by
   intro W7 hb7
   exact ⟨(hb7.block _ (by omega)).trans c2, (hb7.block _ (by omega)).trans c3, (hb7.block D (Array.getElem?_eq_some_iff.1 hK).1).trans hK⟩
  clear hI hK v0 v1 v2 v3 v4 c0 c1 c2 c3 c4
  gi_big_wp2_with (first
   | (refine ⟨trivial, fun h => (by cases h), ?_⟩; gi_at_call 183; refine (callsIn_wide.2 (end_failed b.tb b.g _ _ _ _ _ _ aa as_ am 0 0 0 ca cs cm _ gc _ _ _ _ _ _ _ _ en tr pa mx now nid mp _ e1)).mono ?_; rintro e w7 ⟨rfl, hb7⟩; obtain ⟨d2, d3, dK⟩ := HC.out w7 hb7; obtain ⟨f0, f1, f2, f3, f4, f5, f6, f7, f8, f9⟩ := cells10 d2; have ff : ∀ k, w7.frozen? ⟨w.heap.size + 1 + 1, k, none⟩ = false := (fun k => frozen_of_row w7 _ k _ 178 d2); have d30 : w7.cell? ⟨w.heap.size + 1 + 1 + 1, 0, none⟩ = some (.bool false) := (by rw [cell_blk d3]; rfl); have fg : ∀ k, w7.frozen? ⟨w.heap.size + 1 + 1 + 1, k, none⟩ = false := (fun k => frozen_of_row w7 _ k _ 4 d3)))
  have hin : w.heap.size ≤ w.heap.size + 1 + 1 := by omega
  have hin3 : w.heap.size ≤ w.heap.size + 1 + 1 + 1 := by omega
  have hB7 : Below w.heap.size w w7 := hB4.trans (hb7.mono (by omega))
  refine top_leaves (S := w.heap.size) (ended := true) (addr := 0) (id := t.id) (rp := true) (code := 2) (nm := t.nm) (ty := t.ty) (va := .slice aa 0 ca) (vs := .slice as_ 0 cs) (vm := .slice am 0 cm) ?_ ?_ rfl rfl ?_ (by omega) ⟨_, rfl, ?_⟩
  ·rw [Below.heap_setCell _ _ _ _ (by simp)]
   exact step_set true 0 t.id true 2 t.nm t.ty _ _ _ d2
  ·exact flag_set _ ((sets10n w7 (by omega)).trans d3)
  ·rw [Below.heap_setCell _ _ _ _ (by simp; omega)]
   exact (sets10n (k := D) w7 (by omega)).trans dK
  ·unfold StepR
   rw [hnx]
   exact ⟨below_put ((((((((((((hB7.set hin 0 _).set hin 1 _).set hin 2 _).set hin 3 _).set hin 4 _).set hin 5 _).set hin 6 _).set hin 7 _).set hin 8 _).set hin 9 _).set hin3 0 _)) (by omega) _, _, _, _, _, _, _, rfl⟩
 case stop =>
  rintro D c pre W4 hD hpre ⟨rfl, ended, addr, id, rp, code, nm, ty, va, vs, vm, h2, h3, h4⟩ hK
  gi_wp2
  exact top_leaves (S := w.heap.size) h2 h3 rfl rfl hK (by omega) ⟨_, rfl, h4.low (B := w.heap.size) (below_put (Below.refl _ _) (by omega) _) (Nat.le_refl _) ⟨l1, l2, l4, q5.lt⟩⟩
end Go.Proofs.YtefdokkadckbbaaGreatDoor
