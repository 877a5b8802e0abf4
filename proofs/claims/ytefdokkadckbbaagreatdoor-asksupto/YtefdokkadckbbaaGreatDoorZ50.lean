/- Pa Pd -/
import Derived.Test.YtefdokkadckbbaaGreatDoorZ49
import Derived.Test.YtefdokkadckbbaaGreatDoorZ47
section
namespace Go.Proofs.YtefdokkadckbbaaGreatDoor
open Go.RowKit Go.MapKept Go.Maps
set_option maxRecDepth 100000
theorem PRc.tick {W : World} {F : Nat → Prop} {x : Nat} {s : Rs} {vt : Value} (h : PRc W F x s vt) (now' : Int) : (∃ v, W.cell? ⟨x, 6, none⟩ = some v) ∧ PRc (W.setCell ⟨x, 6, none⟩ (.int .i64 now')) F x { s with now := now' } vt := by
 obtain ⟨hb, hc, mp, av, ar, cv, cr, hX, _, _, hv, hvF, hr, hrF, HB⟩ := h.world
 have hset : ∀ j, j ≠ x → (W.setCell ⟨x, 6, none⟩ (.int .i64 now')).heap[j]? = W.heap[j]? := fun j hj => Below.heap_setCell _ _ _ _ hj
 refine ⟨⟨_, by rw [cell_blk hX]; rfl⟩, HB (W.setCell ⟨x, 6, none⟩ (.int .i64 now')) F s.nid s.asked now' vt _ _ s.sent s.replies s.tasks (by simp) (fun j hj hjx _ _ => hset j hjx) (fun j hj => hj) (fun j hj => by simp; exact h.lt j hj) h.zero ?_ ?_ hvF ?_ hrF⟩
 ·have := heap_setCell_same W x 6 _ 125 (.int .i64 now') hX
  simpa using this
 ·exact own_same hv fun j e => hset j (by rintro rfl; exact own_far hv hX (by decide) e.symm)
 ·exact own_same hr fun j e => hset j (by rintro rfl; exact own_far hr hX (by decide) e.symm)
theorem PRc.setTasks {W : World} {F : Nat → Prop} {x : Nat} {s : Rs} {vt : Value} (h : PRc W F x s vt) (vt' : Value) (ts : List Tk) : PRc (W.setCell ⟨x, 8, none⟩ vt') F x { s with tasks := ts } vt' := by
 obtain ⟨hb, hc, mp, av, ar, cv, cr, hX, _, _, hv, hvF, hr, hrF, HB⟩ := h.world
 have hset : ∀ j, j ≠ x → (W.setCell ⟨x, 8, none⟩ vt').heap[j]? = W.heap[j]? := fun j hj => Below.heap_setCell _ _ _ _ hj
 refine HB (W.setCell ⟨x, 8, none⟩ vt') F s.nid s.asked s.now vt' _ _ s.sent s.replies ts (by simp) (fun j hj hjx _ _ => hset j hjx) (fun j hj => hj) (fun j hj => by simp; exact h.lt j hj) h.zero ?_ ?_ hvF ?_ hrF
 ·have := heap_setCell_same W x 8 _ 125 vt' hX
  simpa using this
 ·exact own_same hv fun j e => hset j (by rintro rfl; exact own_far hv hX (by decide) e.symm)
 ·exact own_same hr fun j e => hset j (by rintro rfl; exact own_far hr hX (by decide) e.symm)
theorem row_read {W : World} {b e n : Nat} {v : Value} {xs : List Value} (h : W.ownsRow b e 1 v n xs) : ∃ a c, v = .slice a n c ∧ ∀ k u, xs[k]? = some u → ∃ g, a = some ⟨g, 0, none⟩ ∧ W.cell? ⟨g, k, none⟩ = some u := by
 rcases h.2 with ⟨h1, h2⟩ | ⟨g, cap, cur, h1, _⟩
 ·refine ⟨none, 0, by rw [h1, h2], fun k u hk => ?_⟩
  have hl := h.1
  rw [h2] at hl
  have := (List.getElem?_eq_some_iff.1 hk).1
  omega
 ·refine ⟨_, _, h1, fun k u hk => ⟨g, rfl, ?_⟩⟩
  have := h.cells (g := g) (by rw [h1]; rfl) k u hk
  rw [add_plain, Nat.zero_add] at this
  exact this
set_option maxHeartbeats 4000000 in
theorem rtick_any (x : Nat) (F : Nat → Prop) (s : Rs) (k n : Nat) (w : World) (hR : PRs w F x s) (hs : RsOk s k n) (hG : Good w) (hn : n + 8 ≤ 33554432) (hk : k + 1 ≤ 1073741824) :
  Calls Tryz.prog 23 #[.pointer (some ⟨x, 0, none⟩)] w fun e w' => e = .returned (.tuple #[]) ∧ ∃ F', PRs w' F' x (tickS s) ∧ Keeps F w w' ∧ (∀ j, F' j → F j ∨ w.heap.size ≤ j) := by
 obtain ⟨C, G, vt, bs, hC, hT, hCG, hF⟩ := hR.ex
 obtain ⟨a, c, rfl⟩ := own_val hT.row
 obtain ⟨i0, hi0, hz0, hz1, hz2⟩ := info_parts infoT
 have hu123 := u123
 have h8 := hs.tasks
 have h0 : 0 < w.heap.size := hG.1
 obtain ⟨hb, hc, mp, av, ar, cv, cr, hX, _⟩ := hC.world
 have lx := hC.lt x hC.own
 obtain ⟨_, _, _, _, _, _, x6, _, x8, _⟩ := cells12 hX
 have xf : ∀ k, w.frozen? ⟨x, k, none⟩ = false := fun k => frozen_of_row w x k _ 125 hX
 have hC1 := (hC.tick (s.now + 1)).2
 obtain ⟨W1, hW1⟩ : ∃ W1, w.setCell ⟨x, 6, none⟩ (.int .i64 (s.now + 1)) = W1 := ⟨_, rfl⟩
 rw [hW1] at hC1
 have hz1' : W1.heap.size = w.heap.size := by rw [← hW1]; simp
 have hW1o : ∀ j, j ≠ x → W1.heap[j]? = w.heap[j]? := fun j hj => by rw [← hW1]; exact Below.heap_setCell _ _ _ _ hj
 have hxG : ∀ j, G j → j ≠ x := fun j hj e => hCG x hC.own (e ▸ hj)
 have hT1 := hT.same (by omega) fun j hj => hW1o j (hxG j hj)
 have hK1 : Keeps (fun j => C j ∨ G j) w W1 := by rw [← hW1]; exact (Keeps.refl _ _).set (.inl (.inl hC.own)) 6 _
 have x81 : W1.cell? ⟨x, 8, none⟩ = some (.slice a s.tasks.length c) := by rw [← hW1, World.cell?_setCell_other _ _ _ _ (by simp)]; exact x8
 have hwr : IntKind.i64.wrap (s.now + 1) = s.now + 1 := by rw [IntKind.wrap_i64]; have := hs.now; omega
 obtain ⟨s1, hs1⟩ : ∃ s1 : Rs, s1 = { s with now := s.now + 1 } := ⟨_, rfl⟩
 have hsame := tickGo_same
 have hs1ok : RsOk s1 (k + 1) n := by
  rw [hs1]
  exact ⟨hs.hs, hs.hint, hs.en, hs.tr, hs.pa, hs.mx, ⟨by have := hs.now.1; show 0 ≤ s.now + 1; omega, by have := hs.now.2; show s.now + 1 ≤ _; omega⟩, hs.nid, ⟨hs.asked.1, by have := hs.asked.2; show s.asked ≤ _; omega⟩, hs.sent, hs.replies, hs.tasks, fun t ht => (hs.task t ht).mono (Nat.le_succ _)⟩
 have hI0 : TickI w C G x (.slice a s.tasks.length c) bs s.tasks (tickGo s1 (s.tasks.take 0)).1 (tickGo s1 (s.tasks.take 0)).2 0 0 W1 (.slice none 0 0) C [] := by
  rw [List.take_zero, tickGo_nil, hs1]
  exact ⟨hC1, fun j hj => hj, fun j hj => .inl hj, hK1, rfl, by simp, fun p hp => (by cases hp), fun j b t _ hb ht => hT1.task j b t hb ht, hT1.row, World.ownsRow_nil _ _ _ _, fun j e => (by simp [Value.ownBlock] at e)⟩
 have hG1 : ∀ wr, Keeps (fun j => C j ∨ G j) w wr → Good wr := fun wr hkr => hkr.good hG (by rintro (h | h); exact hC.zero h; exact hT.zero h)
 go_enter Tryz.func23, Tryz.ntmps23
 go_wp2
 go_loopw [19, 2] (fun iv vw wr => ∃ (m : Nat) (C' : Nat → Prop) (K : List (Tb × Tk)) (va : Option Addr) (vc : Nat), m ≤ s.tasks.length ∧ iv = .int .i64 m ∧ vw = .slice va K.length vc ∧ TickI w C G x (.slice a s.tasks.length c) bs s.tasks (tickGo s1 (s.tasks.take m)).1 (tickGo s1 (s.tasks.take m)).2 m m wr vw C' K) (fun iv _ _ => s.tasks.length - (intOf iv).toNat)
 case atStart => exact ⟨0, C, [], none, 0, Nat.zero_le _, rfl, rfl, hI0⟩
 case round =>
  obtain ⟨m, C', K, va, vc, hm, rfl, rfl, hI⟩ := hrel
  have hKl : K.length ≤ s.tasks.length := by
   have h1 := hI.sub.length_le
   rw [List.length_map, List.length_take, hT.len] at h1
   omega
  by_cases hlt : m < s.tasks.length
  ·obtain ⟨t, ht⟩ : ∃ t, s.tasks[m]? = some t := ⟨_, List.getElem?_eq_getElem hlt⟩
   obtain ⟨b, hbm⟩ : ∃ b, bs[m]? = some b := ⟨_, List.getElem?_eq_getElem (by rw [hT.len]; exact hlt)⟩
   have htk : s.tasks.take (m + 1) = s.tasks.take m ++ [t] := by rw [List.take_add_one, ht]; rfl
   obtain ⟨ga, rfl, hcell⟩ : ∃ ga, a = some ⟨ga, 0, none⟩ ∧ wr.cell? ⟨ga, m, none⟩ = some (tptr b) := by
    obtain ⟨a', c', hv, hh⟩ := row_read hI.row
    simp only [Value.slice.injEq, true_and] at hv
    obtain ⟨rfl, rfl⟩ := hv
    exact hh m (tptr b) (by rw [List.getElem?_map, hbm]; rfl)
   have hcap : s.tasks.length ≤ c := by
    rcases hT.row.2 with ⟨h1, _⟩ | ⟨_, _, _, h1, _, _, h2, _⟩
    ·cases h1
    ·simp only [Value.slice.injEq] at h1; omega
   have hPt := hI.rest m b t (Nat.le_refl _) hbm ht
   have htok : TkOk t (k + 1) := (hs.task t (List.mem_of_getElem? ht)).mono (Nat.le_succ _)
   obtain ⟨S, hS⟩ : ∃ S, (tickGo s1 (s.tasks.take m)).1 = S := ⟨_, rfl⟩
   have hSok : RsOk S (k + 1) (n + 8) := by
    rw [← hS]
    refine (tickGo_ok (s.tasks.take m) s1 (k + 1) n hs1ok fun t ht => ?_).1.mono (Nat.le_refl _) (by rw [List.length_take]; omega)
    exact (hs.task t (List.mem_of_mem_take ht)).mono (Nat.le_succ _)
   rw [hS] at hI
   obtain ⟨hb', hc', mp', av', ar', cv', cr', hX', _⟩ := hI.core.world
   have hob := hT.own b (List.mem_of_getElem? hbm)
   have hnC : ∀ j, G j → ¬ C' j := fun j hg hc => by
    rcases hI.new j hc with h | h
    ·exact hCG j h hg
    ·have := hT.lt j hg; omega
   have HO : Hid (Calls Tryz.prog 53 #[.pointer (some ⟨x, 0, none⟩), .pointer (some ⟨b.tb, 0, none⟩)] wr fun e w' => e = .returned (.bool (decide (S.pa ≤ S.now - t.at_))) ∧ w' = wr.drew) := overdue_any x _ _ _ _ _ _ _ _ _ _ _ _ b t (k + 1) wr hX' hPt htok hk (by have := hSok.now; omega)
   by_cases hov : S.pa ≤ S.now - t.at_
   ·have HO' : Hid (Calls Tryz.prog 53 #[.pointer (some ⟨x, 0, none⟩), .pointer (some ⟨b.tb, 0, none⟩)] wr fun e w' => e = .returned (.bool true) ∧ w' = wr.drew) := by
     have := HO.out
     rw [decide_eq_true hov] at this
     exact this
    obtain ⟨bw, hbw⟩ : ∃ bw, bw = !(workS S t).2.isEmpty := ⟨_, rfl⟩
    have HW : Hid (Calls Tryz.prog 54 #[.pointer (some ⟨x, 0, none⟩), .pointer (some ⟨b.tb, 0, none⟩)] wr.drew fun e w' => e = .returned (.bool bw) ∧ ∃ F', PRc w' F' x (workS S t).1 (.slice (some ⟨ga, 0, none⟩) s.tasks.length c) ∧ Keeps (fun j => C' j ∨ j = b.tb ∨ j = b.m) wr.drew w' ∧ (∀ j, C' j → F' j) ∧ (∀ j, F' j → C' j ∨ wr.drew.heap.size ≤ j) ∧ ∀ t' ∈ (workS S t).2, PTk w' b t') :=
     hbw ▸ rwork_any x C' S _ b t (k + 1) (n + 8) wr.drew hI.drew.core (hPt.same rfl rfl rfl rfl) ⟨hnC _ hob.1, hnC _ hob.2.1, hnC _ hob.2.2.1, hnC _ hob.2.2.2⟩ hSok htok (hG1 wr hI.keeps) ⟨fun e => hT.zero (e ▸ hob.1), fun e => hT.zero (e ▸ hob.2.2.2)⟩ hn
    have hstep : tickGo s1 (s.tasks.take (m + 1)) = ((workS S t).1, (tickGo s1 (s.tasks.take m)).2 ++ (workS S t).2) := by rw [htk, tickGo_snoc_yes _ _ _ (by rw [hS]; exact hov), hS]
    clear HO
    rcases work_two S t with hw2 | ⟨t', hw2⟩
    ·obtain rfl : bw = false := by rw [hbw, hw2]; rfl
     clear hbw
     go_wp2_with (first
      | (go_at_call 53; refine HO'.out.mono ?_; rintro e w2 ⟨rfl, rfl⟩)
      | (go_at_call 54; refine HW.out.mono ?_; rintro e w1 ⟨rfl, C1, hP1, hk1, hm1, hn1, ht1⟩))
     go_roundw
     case rel =>
      refine ⟨m + 1, C1, K, va, vc, hlt, by go_num, rfl, ?_⟩
      rw [hstep, hw2, List.append_nil]
      exact (hI.drew.work hT hCG hbm ht hP1 hk1 hm1 hn1).skip
     case measure => simp [intOf]; omega
    ·obtain rfl : bw = true := by rw [hbw, hw2]; rfl
     clear hbw
     go_upto_region 6 with (first
      | (go_at_call 53; refine HO'.out.mono ?_; rintro e w2 ⟨rfl, rfl⟩)
      | (go_at_call 54; refine HW.out.mono ?_; rintro e w1 ⟨rfl, C1, hP1, hk1, hm1, hn1, ht1⟩))
     have hI1 := hI.drew.work hT hCG hbm ht hP1 hk1 hm1 hn1
     have hPb := ht1 t' (by rw [hw2]; simp)
     go_wp2_with (at_builtin; refine wpList_append_two _ rfl _ _ 123 rfl 0 126 i0 (.pointer none) 1 8 hu123 hi0 hz0 hz1 hz2 rfl _ _ _ rfl (hI1.wait.alloc _) ⟨w1.heap.size, 0, none⟩ 1 1 [tptr b] rfl rfl (World.news_of_block (Go.heap_alloc_new _ _)) (by intro u hu; simp at hu; rw [hu]; rfl) (by decide) (by unfold maxLen; omega) (by omega) (Nat.zero_le _) ?_)
     intro g6 c6 w6 r6 o6 L6
     have hI6 := hI1.push hT hbm hPb r6 L6
     clear r6 o6 L6
     go_wp2
     go_roundw
     case rel =>
      refine ⟨m + 1, C1, K ++ [(b, t')], some ⟨g6, 0, none⟩, c6, hlt, by go_num, by simp, ?_⟩
      rw [hstep, hw2]
      exact hI6
     case measure => simp [intOf]; omega
   ·have HO' : Hid (Calls Tryz.prog 53 #[.pointer (some ⟨x, 0, none⟩), .pointer (some ⟨b.tb, 0, none⟩)] wr fun e w' => e = .returned (.bool false) ∧ w' = wr.drew) := by
     have := HO.out
     rw [decide_eq_false hov] at this
     exact this
    have hstep : tickGo s1 (s.tasks.take (m + 1)) = (S, (tickGo s1 (s.tasks.take m)).2 ++ [t]) := by rw [htk, tickGo_snoc_no _ _ _ (by rw [hS]; exact hov), hS]
    clear HO
    go_upto_region 6 with (go_at_call 53; refine HO'.out.mono ?_; rintro e w2 ⟨rfl, rfl⟩)
    have hI1 := hI.drew.later
    have hPb : PTk wr.drew b t := hPt.same rfl rfl rfl rfl
    go_wp2_with (at_builtin; refine wpList_append_two _ rfl _ _ 123 rfl 0 126 i0 (.pointer none) 1 8 hu123 hi0 hz0 hz1 hz2 rfl _ _ _ rfl (hI1.wait.alloc _) ⟨wr.drew.heap.size, 0, none⟩ 1 1 [tptr b] rfl rfl (World.news_of_block (Go.heap_alloc_new _ _)) (by intro u hu; simp at hu; rw [hu]; rfl) (by decide) (by unfold maxLen; omega) (by omega) (Nat.zero_le _) ?_)
    intro g6 c6 w6 r6 o6 L6
    have hI6 := hI1.push hT hbm hPb r6 L6
    clear r6 o6 L6
    go_wp2
    go_roundw
    case rel =>
     refine ⟨m + 1, C', K ++ [(b, t)], some ⟨g6, 0, none⟩, c6, hlt, by go_num, by simp, ?_⟩
     rw [hstep]
     exact hI6
    case measure => simp [intOf]; omega
  ·obtain rfl : m = s.tasks.length := by omega
   rw [List.take_length] at hI
   obtain ⟨hb', hc', mp', av', ar', cv', cr', hX', _⟩ := hI.core.world
   have y8 : wr.cell? ⟨x, 8, none⟩ = some (.slice a s.tasks.length c) := by rw [cell_blk hX']; rfl
   have yf : ∀ k, wr.frozen? ⟨x, k, none⟩ = false := fun k => frozen_of_row wr x k _ 125 hX'
   go_wp2
   go_end0
   have hend := hI.ends hT h0
   have hce := hI.core.setTasks (.slice va K.length vc) (tickGo s1 s.tasks).2
   have hts : tickS s = { (tickGo s1 s.tasks).1 with tasks := (tickGo s1 s.tasks).2 } := by unfold tickS; rw [hs1]
   have hGx : ∀ j, ((Value.slice va K.length vc).ownBlock = some j ∨ ∃ c ∈ K.map (·.1), j = c.tb ∨ j = c.gb ∨ j = c.g ∨ j = c.m) → ¬ C' j := by
    rintro j (e | ⟨c', hc'', hj⟩) hcj
    ·exact (hI.waitN j e).2 hcj
    ·obtain ⟨i', hi', hb''⟩ := sub_index hI.sub hc''
     obtain ⟨o1, o2, o3, o4⟩ := hT.own c' (List.mem_of_getElem? hb'')
     have hGj : G j := by rcases hj with rfl | rfl | rfl | rfl <;> assumption
     rcases hI.new j hcj with h | h
     ·exact hCG j h hGj
     ·have := hT.lt j hGj; omega
   refine ⟨rfl, fun j => C' j ∨ ((Value.slice va K.length vc).ownBlock = some j ∨ ∃ c ∈ K.map (·.1), j = c.tb ∨ j = c.gb ∨ j = c.g ∨ j = c.m), ⟨C', _, .slice va K.length vc, K.map (·.1), ?_, ?_, fun j hj hg => hGx j hg hj, fun j => Iff.rfl⟩, ?_, ?_⟩
   ·rw [hts]; exact hce
   ·rw [hts]
    exact hend.same (by simp) fun j hg => Below.heap_setCell _ _ _ _ (fun e => hGx j hg (e ▸ hI.core.own))
   ·refine (hI.keeps.mono fun j hj => (hF j).2 hj).set ?_ 8 _
    rcases hI.new x hI.core.own with h | h
    ·exact .inl ((hF x).2 (.inl h))
    ·exact .inr h
   ·rintro j (hj | e | ⟨c', hc'', hj⟩)
    ·rcases hI.new j hj with h | h
     ·exact .inl ((hF j).2 (.inl h))
     ·exact .inr h
    ·exact .inr (hI.waitN j e).1
    ·obtain ⟨i', hi', hb''⟩ := sub_index hI.sub hc''
     obtain ⟨o1, o2, o3, o4⟩ := hT.own c' (List.mem_of_getElem? hb'')
     refine .inl ((hF j).2 (.inr ?_))
     rcases hj with rfl | rfl | rfl | rfl <;> assumption
end Go.Proofs.YtefdokkadckbbaaGreatDoor
end
section
namespace Go.Proofs.YtefdokkadckbbaaGreatDoor
open Go.RowKit Go.MapKept Go.Maps
set_option maxRecDepth 100000
theorem PRs.setAsked {W : World} {F : Nat → Prop} {x : Nat} {s : Rs} (h : PRs W F x s) (n : Int) : (∃ v, W.cell? ⟨x, 9, none⟩ = some (.int .i64 s.asked) ∧ v = s.asked) ∧ (∀ k, W.frozen? ⟨x, k, none⟩ = false) ∧ F x ∧ PRs (W.setCell ⟨x, 9, none⟩ (.int .i64 n)) F x { s with asked := n } := by
 obtain ⟨C, G, vt, bs, hC, hT, hCG, hF⟩ := h.ex
 obtain ⟨hb, hc, mp, av, ar, cv, cr, hX, _, _, hv, hvF, hr, hrF, HB⟩ := hC.world
 have hset : ∀ j, j ≠ x → (W.setCell ⟨x, 9, none⟩ (.int .i64 n)).heap[j]? = W.heap[j]? := fun j hj => Below.heap_setCell _ _ _ _ hj
 refine ⟨⟨_, by rw [cell_blk hX]; rfl, rfl⟩, fun k => frozen_of_row W x k _ 125 hX, (hF x).2 (.inl hC.own), C, G, vt, bs, HB (W.setCell ⟨x, 9, none⟩ (.int .i64 n)) C s.nid n s.now vt _ _ s.sent s.replies s.tasks (by simp) (fun j hj hjx _ _ => hset j hjx) (fun j hj => hj) (fun j hj => by simp; exact hC.lt j hj) hC.zero ?_ ?_ hvF ?_ hrF, ?_, hCG, hF⟩
 ·have := heap_setCell_same W x 9 _ 125 (.int .i64 n) hX
  simpa using this
 ·exact own_same hv fun j e => hset j (by rintro rfl; exact own_far hv hX (by decide) e.symm)
 ·exact own_same hr fun j e => hset j (by rintro rfl; exact own_far hr hX (by decide) e.symm)
 ·exact hT.same (by simp) fun j hj => hset j fun e => hCG x hC.own (e ▸ hj)
theorem rtellP (x : Nat) (F : Nat → Prop) (s : Rs) (k n : Nat) (num id code : Int) (nm : ByteArray) (ty : Int) (aa as_ am : Option Addr) (ca cs cm : Nat) (w : World) (hR : PRs w F x s) (hs : RsOk s k n) (hG : Good w) (hn : n ≤ 33554432) (hnm : nm.size ≤ 1048576) :
  Calls Tryz.prog 67 #[.pointer (some ⟨x, 0, none⟩), .int .i64 num, .agg #[.int .i64 id, .bool true, .int .i64 code, .string nm, .int .i64 ty, .slice aa 0 ca, .slice as_ 0 cs, .slice am 0 cm]] w fun e w' => e = .returned (.tuple #[]) ∧ ∃ F', PRs w' F' x { s with replies := s.replies ++ [(num, rB id code nm ty)] } ∧ Keeps F w w' ∧ (∀ j, F' j → F j ∨ w.heap.size ≤ j) := by
 obtain ⟨C, G, vt, bs, hC, hT, hCG, hF⟩ := hR.ex
 obtain ⟨hb, hc, mp, av, ar, cv, cr, hX, _, _, hv, hvF, hr, hrF, HB⟩ := hC.world
 refine (rtell_any x mp _ _ _ _ _ _ _ _ _ _ ar cr s.replies id num code nm ty aa as_ am ca cs cm w hX hr hG (fun e => hC.zero (e ▸ hC.own)) (fun e => hC.zero (hrF 0 e)) hnm (by have := hs.replies; omega)).mono ?_
 rintro e w3 ⟨rfl, g, c, hX3, hv3, hk3, hg3⟩
 have hz3 := hk3.size
 have hgl : g < w3.heap.size := (hv3.lt g rfl).2
 have hvr : ∀ j, (Value.slice av s.sent.length cv).ownBlock = some j → (Value.slice ar s.replies.length cr).ownBlock ≠ some j := fun j e e' => by
  obtain ⟨c1, h1⟩ := own_blk hv e
  obtain ⟨c2, h2⟩ := own_blk hr e'
  exact kind_ne h1 h2 (by decide) rfl
 have hvx : ∀ j, (Value.slice av s.sent.length cv).ownBlock = some j → j ≠ x := fun j e => by rintro rfl; exact own_far hv hX (by decide) e.symm
 have hsm : ∀ j, j < w.heap.size → j ≠ x → (Value.slice ar s.replies.length cr).ownBlock ≠ some j → w3.heap[j]? = w.heap[j]? := fun j hj h1 h2 => hk3.block j hj (by rintro (h | h); exact h1 h; exact h2 h)
 have hGg : ∀ j, G j → j < w.heap.size ∧ j ≠ x ∧ (Value.slice ar s.replies.length cr).ownBlock ≠ some j := fun j hj => ⟨hT.lt j hj, fun e => hCG x hC.own (e ▸ hj), fun e => hCG j (hrF j e) hj⟩
 have hgG : ¬ G g := fun hg => by
  rcases hg3 with h | h
  ·exact hCG g (hrF g h) hg
  ·have := hT.lt g hg; omega
 refine ⟨rfl, fun j => (C j ∨ j = g) ∨ G j, ⟨fun j => C j ∨ j = g, G, vt, bs, ?_, ?_, ?_, fun j => Iff.rfl⟩, ?_, ?_⟩
 ·refine HB w3 _ _ s.asked s.now vt _ _ s.sent _ s.tasks hz3 (fun j hj hjx _ hjr => hsm j (hC.lt j hj) hjx hjr) (fun j hj => .inl hj) ?_ ?_ hX3 ?_ (fun j e => .inl (hvF j e)) (by simpa using hv3) (fun j e => by simp [Value.ownBlock] at e; exact .inr e.symm)
  ·rintro j (hj | rfl)
   ·have := hC.lt j hj; omega
   ·exact hgl
  ·rintro (h | h)
   ·exact hC.zero h
   ·rcases hg3 with h' | h'
    ·exact hC.zero (hrF 0 (h ▸ h'))
    ·have := hC.lt x hC.own; omega
  ·exact own_same hv fun j e => hsm j (hv.lt j e).2 (hvx j e) (hvr j e)
 ·exact hT.same hz3 fun j hj => hsm j (hGg j hj).1 (hGg j hj).2.1 (hGg j hj).2.2
 ·rintro j (hj | rfl) hg
  ·exact hCG j hj hg
  ·exact hgG hg
 ·refine hk3.mono ?_
  rintro j (h | h)
  ·exact (hF j).2 (.inl (h ▸ hC.own))
  ·exact (hF j).2 (.inl (hrF j h))
 ·rintro j ((hj | rfl) | hj)
  ·exact .inl ((hF j).2 (.inl hj))
  ·rcases hg3 with h' | h'
   ·exact .inl ((hF _).2 (.inl (hrF _ h')))
   ·exact .inr h'
  ·exact .inl ((hF j).2 (.inr hj))
def AskR (x : Nat) (F : Nat → Prop) (s : Rs) (b : ByteArray) (w : World) (e : Ending) (w' : World) : Prop :=
 match qidS (tl b) with
 | none => e = .returned (.tuple #[.int .i64 0, .int .i64 3]) ∧ Below w.heap.size w w'
 | some id => if 8 ≤ s.tasks.length then e = .returned (.tuple #[.int .i64 0, .int .i64 4]) ∧ Below w.heap.size w w'
  else e = .returned (.tuple #[.int .i64 s.asked, .int .i64 0]) ∧ ∃ F', PRs w' F' x (askS s b id) ∧ Keeps F w w' ∧ (∀ j, F' j → F j ∨ w.heap.size ≤ j)
set_option maxHeartbeats 4000000 in
theorem rask_any (x : Nat) (F : Nat → Prop) (s : Rs) (k n : Nat) (b : ByteArray) (w : World) (hR : PRs w F x s) (hs : RsOk s k n) (hG : Good w) (hn : n ≤ 33554432) (hk : k ≤ 1073741824) (hb : b.size ≤ 1048576) :
  Calls Tryz.prog 33 #[.pointer (some ⟨x, 0, none⟩), .string b] w (AskR x F s b w) := by
 obtain ⟨_, _, hFx, _⟩ := hR.setAsked 0
 obtain ⟨C, G, vt, bs, hC, hT, hCG, hF⟩ := hR.ex
 obtain ⟨a, c, rfl⟩ := own_val hT.row
 obtain ⟨_, _, _, _, _, _, _, hX, _⟩ := hC.world
 have lx := hC.lt x hC.own
 have x8 : w.cell? ⟨x, 8, none⟩ = some (.slice a s.tasks.length c) := by rw [cell_blk hX]; rfl
 have HQ : Hid (Calls Tryz.prog 63 #[.string b] w fun e w' => e = .returned (.tuple #[.int .i64 ((qidS (tl b)).getD 0), .bool (qidS (tl b)).isSome]) ∧ Below w.heap.size w w') := questionID_any b w hb
 unfold AskR
 cases hq : qidS (tl b) with
 | none =>
  rw [hq] at HQ
  go_enter Tryz.func33, Tryz.ntmps33
  go_wp2_with (go_at_call 63; refine HQ.out.mono ?_; rintro e w1 ⟨rfl, hb1⟩)
  go_ret2
  exact ⟨rfl, hb1⟩
 | some id =>
  rw [hq] at HQ
  have H8 : Hid (∀ w1, Below w.heap.size w w1 → w1.cell? ⟨x, 8, none⟩ = some (.slice a s.tasks.length c)) := fun w1 h1 => (h1.cell (p := ⟨x, 8, none⟩) lx).trans x8
  by_cases h8 : 8 ≤ s.tasks.length
  ·simp only [if_pos h8]
   have h8' : (8 : Int) ≤ (s.tasks.length : Int) := by omega
   clear x8
   go_enter Tryz.func33, Tryz.ntmps33
   go_wp2_with (go_at_call 63; refine HQ.out.mono ?_; rintro e w1 ⟨rfl, hb1⟩; have y8 := H8.out w1 hb1)
   go_ret2
   exact ⟨rfl, hb1⟩
  ·simp only [if_neg h8]
   have h8' : ¬ (8 : Int) ≤ (s.tasks.length : Int) := by omega
   clear x8
   go_enter Tryz.func33, Tryz.ntmps33
   go_upto_region 6 with (go_at_call 63; refine HQ.out.mono ?_; rintro e w1 ⟨rfl, hb1⟩; have y8 := H8.out w1 hb1)
   have R1 : PRs w1 F x s := hR.same hb1.size fun j hj => hb1.block j (hR.lt j hj)
   obtain ⟨⟨_, c9, _⟩, xf, _, R2⟩ := R1.setAsked (s.asked + 1)
   have hwr : IntKind.i64.wrap (s.asked + 1) = s.asked + 1 := by rw [IntKind.wrap_i64]; have := hs.asked; omega
   have hlx1 : x < w1.heap.size := Nat.lt_of_lt_of_le lx hb1.size
   obtain ⟨W2, hW2⟩ : ∃ W2, w1.setCell ⟨x, 9, none⟩ (.int .i64 (s.asked + 1)) = W2 := ⟨_, rfl⟩
   rw [hW2] at R2
   have hz2 : W2.heap.size = w1.heap.size := by rw [← hW2]; simp
   have hK2 : Keeps F w W2 := by rw [← hW2]; exact (keeps_of_below hb1).set (.inl hFx) 9 _
   have hG2 : Good W2 := hK2.good hG hR.zero
   have HW2 : Hid (w1.setCell ⟨x, 9, none⟩ (.int .i64 (s.asked + 1)) = W2) := hW2
   clear hW2
   go_upto_region 8 with fail
   rw [HW2.out]
   obtain ⟨id', rp, code, nm, ty, na, ns, nn, hall, hQ2⟩ := questionOf_any b W2 hb
   have hs2 : RsOk { s with asked := s.asked + 1 } (k + 1) n := ⟨hs.hs, hs.hint, hs.en, hs.tr, hs.pa, hs.mx, ⟨hs.now.1, by have := hs.now.2; show s.now ≤ _; omega⟩, hs.nid, ⟨by have := hs.asked.1; show 0 ≤ s.asked + 1; omega, by have := hs.asked.2; show s.asked + 1 ≤ _; omega⟩, hs.sent, hs.replies, hs.tasks, fun t ht => (hs.task t ht).mono (Nat.le_succ _)⟩
   have hzw := hb1.size
   cases hm : askOk (msgS (tl b)) with
   | some m =>
    rw [hm] at hQ2
    obtain ⟨rfl, hrp, rfl, rfl, rfl, rfl, rfl, rfl⟩ := hall m hm
    obtain ⟨hr0, hid, hnm, hty⟩ := ask_ok hm hq
    rw [hr0] at hrp
    subst hrp
    have HQ2 : Hid (Calls Tryz.prog 64 #[.string b] W2 fun e w' => Below W2.heap.size W2 w' ∧ ∃ (aa as_ am : Option Addr) (ca cs cm : Nat), e = .returned (.tuple #[msgV m.id false 0 m.name m.ty (.slice aa 0 ca) (.slice as_ 0 cs) (.slice am 0 cm), .bool true])) := hQ2
    clear hall hQ2
    go_upto_region 10 with (go_at_call 64; refine HQ2.out.mono ?_; rintro e w3 ⟨hb3, aa, as_, am, ca, cs, cm, rfl⟩)
    obtain ⟨W4, hW4⟩ : ∃ W4, w3.alloc (.cells #[.int .i64 m.id, .bool false, .int .i64 0, .string m.name, .int .i64 m.ty, .slice aa 0 ca, .slice as_ 0 cs, .slice am 0 cm] 27) = W4 := ⟨_, rfl⟩
    have hb4 : Below w3.heap.size w3 W4 := by rw [← hW4]; exact (Below.refl _ _).alloc (Nat.le_refl _) _
    have e4 : W4.heap[w3.heap.size]? = some (.cells #[.int .i64 m.id, .bool false, .int .i64 0, .string m.name, .int .i64 m.ty, .slice aa 0 ca, .slice as_ 0 cs, .slice am 0 cm] 27 (0, 0)) := by rw [← hW4]; exact World.alloc_heap_new w3 _
    obtain ⟨f0, f1, f2, f3, f4, f5, f6, f7⟩ := cells8 e4
    have hB4 : Below W2.heap.size W2 W4 := hb3.trans (hb4.mono hb3.size)
    rw [hW4]
    clear hW4
    have hz4 := hB4.size
    have HB : Hid (∀ w5 (tb : Tb), Below W4.heap.size W4 w5 → PTk w5 tb (newTk s.asked m) → W4.heap.size ≤ tb.tb ∧ W4.heap.size ≤ tb.gb ∧ W4.heap.size ≤ tb.g ∧ W4.heap.size ≤ tb.m → Calls Tryz.prog 65 #[.pointer (some ⟨x, 0, none⟩), .pointer (some ⟨tb.tb, 0, none⟩)] w5 fun e w' => e = .returned (.tuple #[]) ∧ ∃ F', PRs w' F' x (askS s b id) ∧ Keeps F w w' ∧ (∀ j, F' j → F j ∨ w.heap.size ≤ j)) := by
     intro w5 tb hb5 hP5 hnew
     have hB5 : Below W2.heap.size W2 w5 := hB4.trans (hb5.mono hz4)
     have R5 : PRs w5 F x { s with asked := s.asked + 1 } := R2.same hB5.size fun j hj => hB5.block j (R2.lt j hj)
     have hlF : ∀ j, F j → j < W2.heap.size := R2.lt
     have h0W : 0 < W2.heap.size := hG2.1
     have htk : TkOk (newTk s.asked m) (k + 1) := ⟨⟨hs.asked.1, by have := hs.asked.2; show s.asked ≤ _; omega⟩, hid, hnm, hty, fun _ => ⟨Int.le_refl _, show (0 : Int) ≤ 3 by decide⟩, ⟨Int.le_refl _, show (0 : Int) ≤ 16 by decide⟩, ⟨Int.le_refl _, by show (0 : Int) ≤ _; omega⟩⟩
     refine (rbegin_any x F _ tb (newTk s.asked m) (k + 1) n w5 R5 hP5 ⟨fun h => by have := hlF _ h; omega, fun h => by have := hlF _ h; omega, fun h => by have := hlF _ h; omega, fun h => by have := hlF _ h; omega⟩ hs2 htk (hG2.below hB5) ⟨by omega, by omega, by omega, by omega⟩ hn).mono ?_
     rintro e w6 ⟨rfl, F', hR6, hk6, hF6⟩
     refine ⟨rfl, F', by rw [ask_eq_some hm]; exact hR6, ?_, ?_⟩
     ·refine (hK2.below hB5).then hk6 ?_
      rintro j (h | rfl | rfl)
      ·exact .inl h
      ·exact .inr (by omega)
      ·exact .inr (by omega)
     ·intro j hj
      rcases hF6 j hj with h | h | rfl | rfl | rfl | rfl
      ·exact .inl h
      ·exact .inr (by have := hB5.size; omega)
      ·exact .inr (by omega)
      ·exact .inr (by omega)
      ·exact .inr (by omega)
      ·exact .inr (by omega)
    go_wp2_with (first
     | (go_at_call 66; refine (begin_any s.asked m.id m.name m.ty aa as_ am ca cs cm _).mono ?_; rintro e w5 ⟨tb, rfl, hP5, hb5, hn1, hn2, hn3, hn4⟩)
     | (go_at_call 65; refine (HB.out w5 tb hb5 hP5 ⟨hn1, hn2, hn3, hn4⟩).mono ?_; rintro e w6 ⟨rfl, HE⟩))
    go_ret2
    exact ⟨rfl, HE⟩
   | none =>
    rw [hm] at hQ2
    have HQ2 : Hid (Calls Tryz.prog 64 #[.string b] W2 fun e w' => Below W2.heap.size W2 w' ∧ ∃ (aa as_ am : Option Addr) (ca cs cm : Nat), e = .returned (.tuple #[msgV id' rp code nm ty (.slice aa na ca) (.slice as_ ns cs) (.slice am nn cm), .bool false])) := hQ2
    clear hall hQ2
    have HT : Hid (∀ w4, Below W2.heap.size W2 w4 → Calls Tryz.prog 67 #[.pointer (some ⟨x, 0, none⟩), .int .i64 s.asked, .agg #[.int .i64 id, .bool true, .int .i64 1, .string ⟨#[]⟩, .int .i64 0, .slice none 0 0, .slice none 0 0, .slice none 0 0]] w4 fun e w' => e = .returned (.tuple #[]) ∧ ∃ F', PRs w' F' x (askS s b id) ∧ Keeps F w w' ∧ (∀ j, F' j → F j ∨ w.heap.size ≤ j)) := by
     intro w4 hb4
     have R4 : PRs w4 F x { s with asked := s.asked + 1 } := R2.same hb4.size fun j hj => hb4.block j (R2.lt j hj)
     refine (rtellP x F _ (k + 1) n s.asked id 1 ⟨#[]⟩ 0 none none none 0 0 0 w4 R4 hs2 (hG2.below hb4) hn (by decide)).mono ?_
     rintro e w6 ⟨rfl, F', hR6, hk6, hF6⟩
     refine ⟨rfl, F', by rw [ask_eq_none hm]; exact hR6, (hK2.below hb4).trans hk6, fun j hj => ?_⟩
     rcases hF6 j hj with h | h
     ·exact .inl h
     ·exact .inr (by have := hb4.size; omega)
    go_upto_region 11 with (go_at_call 64; refine HQ2.out.mono ?_; rintro e w3 ⟨hb3, aa, as_, am, ca, cs, cm, rfl⟩)
    go_wp2_with (go_at_call 67; refine (HT.out _ (hb3.alloc hb3.size _)).mono ?_; rintro e w6 ⟨rfl, HE⟩)
    go_ret2
    exact ⟨rfl, HE⟩
end Go.Proofs.YtefdokkadckbbaaGreatDoor
end
