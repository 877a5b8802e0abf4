/- Qk -/
import Derived.Test.YtefdokkadckbbaaGreatDoorZ47
namespace Go.Proofs.YtefdokkadckbbaaGreatDoor
open Go.RowKit
set_option maxRecDepth 100000
def QAskR (y : Nat) (F : Nat → Prop) (s : Rs) (b : ByteArray) (w : World) (e : Ending) (w' : World) : Prop :=
 match qidS (tl b) with
 | none => e = .returned (.tuple #[.int .i64 0, .int .i64 3]) ∧ Below w.heap.size w w'
 | some id => if 8 ≤ s.tasks.length then e = .returned (.tuple #[.int .i64 0, .int .i64 4]) ∧ Below w.heap.size w w'
  else e = .returned (.tuple #[.int .i64 s.asked, .int .i64 0]) ∧ ∃ F', RRs w' F' y (askS s b id) ∧ Keeps F w w' ∧ (∀ j, F' j → F j ∨ w.heap.size ≤ j)
theorem qid_none {b : ByteArray} (h : qidS (tl b) = none) (h4 : 4 ≤ b.size) : ∃ c2 : Nat, c2 ≠ 113 ∧ ∀ w, (Instr.index 9 (.string b) (.int .i64 2)).run Tryz.prog w = .ok (.int .u8 c2) w := by
 match hb : tl b, h with
 | x0 :: x1 :: x2 :: x3 :: r, h =>
  simp only [qidS] at h
  split at h
  ·cases h
  ·rename_i h2
   have g2 : (tl b)[2]? = some b[2] := by
    have : (tl b)[2]? = b.data.toList[2]? := rfl
    rw [this, Array.getElem?_toList]
    exact Array.getElem?_eq_getElem (by show 2 < b.size; omega)
   rw [hb] at g2
   simp at g2
   refine ⟨x2.toNat, fun e => h2 (UInt8.toNat_inj.1 (by rw [e]; rfl)), fun w => ?_⟩
   rw [run_index_string w 9 b .i64 2 u9, dif_pos ⟨by omega, by omega⟩, g2]; rfl
 | [], h => have := tl_length b; rw [hb] at this; simp at this; omega
 | [_], h => have := tl_length b; rw [hb] at this; simp at this; omega
 | [_, _], h => have := tl_length b; rw [hb] at this; simp at this; omega
 | [_, _, _], h => have := tl_length b; rw [hb] at this; simp at this; omega
set_option maxHeartbeats 4000000 in
theorem qask_any (y : Nat) (F : Nat → Prop) (s : Rs) (k n : Nat) (b : ByteArray) (w : World) (hR : RRs w F y s) (hs : RsOk s k n) (hn : n ≤ 33554432) (hk : k ≤ 1073741824) (hb : b.size ≤ 1048576) :
  Calls Tryz.prog 78 #[.pointer (some ⟨y, 0, none⟩), .string b] w (QAskR y F s b w) := by
 obtain ⟨ps, vh, vt, vs, vr, rid, hC, hts⟩ := hR.ex
 obtain ⟨ta, tc, rfl⟩ := own_val' hC.tasks
 obtain ⟨ra, rc, e3⟩ := own_val' hC.reps
 have hpl : ps.length = s.tasks.length := by rw [hts, List.length_map]
 have hY := hC.res
 have y9 : w.cell? ⟨y, 9, none⟩ = some (.int .i64 s.asked) := by rw [cell_blk hY]; rfl
 have y10 : w.cell? ⟨y, 10, none⟩ = some (.slice ta ps.length tc) := by rw [cell_blk hY]; rfl
 have fy : ∀ k, w.frozen? ⟨y, k, none⟩ = false := fun k => frozen_of_row w y k _ 163 hY
 have ly := hC.lt y hC.own.1
 have HTS := hid hts
 have hpl8 : 8 ≤ ps.length ↔ 8 ≤ s.tasks.length := by rw [hpl]
 have HP8 := hid hpl8
 clear hts hpl hpl8
 unfold QAskR
 cases hq : qidS (tl b) with
 | none =>
  by_cases h4 : b.size < 4
  ·go_enter Tryz.func78, Tryz.ntmps78
   go_wp2
   go_ret2
   exact ⟨rfl, Below.refl _ _⟩
  ·obtain ⟨c2, hc2, hx2⟩ := qid_none hq (by omega)
   have hd : decide ((c2 : Int) = 113) = false := by simp; omega
   go_enter Tryz.func78, Tryz.ntmps78
   go_wp2
   go_ret2
   exact ⟨rfl, Below.refl _ _⟩
 | some id =>
  obtain ⟨c0, c1, h4, hc0, hc1, hidv, hx0, hx1, hx2⟩ := qid_some hq
  have h4' : ¬ b.size < 4 := by omega
  by_cases h8 : 8 ≤ s.tasks.length
  ·simp only [if_pos h8]
   have h8' : (8 : Int) ≤ (ps.length : Int) := by have := HP8.out.2 h8; omega
   go_enter Tryz.func78, Tryz.ntmps78
   go_wp2
   go_ret2
   exact ⟨rfl, Below.refl _ _⟩
  ·simp only [if_neg h8]
   have h8' : ¬ (8 : Int) ≤ (ps.length : Int) := fun h => h8 (HP8.out.1 (by omega))
   have hwr : IntKind.i64.wrap (s.asked + 1) = s.asked + 1 := by rw [IntKind.wrap_i64]; have := hs.asked; omega
   obtain ⟨s1, hs1⟩ : ∃ s1 : Rs, s1 = { s with asked := s.asked + 1 } := ⟨_, rfl⟩
   have hs1ok : RsOk s1 (k + 1) n := by
    rw [hs1]
    exact ⟨hs.hs, hs.hint, hs.en, hs.tr, hs.pa, hs.mx, ⟨hs.now.1, by have := hs.now.2; show s.now ≤ _; omega⟩, hs.nid, ⟨by have := hs.asked.1; show 0 ≤ s.asked + 1; omega, by have := hs.asked.2; show s.asked + 1 ≤ _; omega⟩, hs.sent, hs.replies, hs.tasks, fun t ht => (hs.task t ht).mono (Nat.le_succ _)⟩
   obtain ⟨W2, hW2⟩ : ∃ W2, w.setCell ⟨y, 9, none⟩ (.int .i64 (s.asked + 1)) = W2 := ⟨_, rfl⟩
   have hK1 : Keeps (fun j => j = y) w W2 := by rw [← hW2]; exact (Keeps.refl (fun j => j = y) w).set (.inl rfl) 9 _
   have hC2 : RRc W2 F y s1 ps vh (.slice ta ps.length tc) vs vr rid := by
    refine hC.put hK1 ?_ (by rw [hs1]) (by rw [hs1]) (by rw [hs1]) (by rw [hs1])
    rw [← hW2, hs1]
    have := heap_setCell_same w y 9 _ 163 (.int .i64 (s.asked + 1)) hY
    simpa using this
   have hK2 : Keeps F w W2 := hK1.mono fun j e => e ▸ hC.own.1
   have zw := hK1.size
   obtain ⟨er, id', rp, code, nm, ty, na, ns, nn, her, hbad, hgood, hD⟩ := rdecode_parts b W2
   have HD := hid hD
   have HK2 := hid hK2
   clear hD hY hC hK1 hK2
   cases hm : askOk (msgS (tl b)) with
   | some m =>
    obtain ⟨rfl, rfl, hrp, rfl, rfl, rfl, rfl, rfl, rfl⟩ := hgood m hm
    obtain ⟨hr0, hid', hnm, hty⟩ := ask_ok hm hq
    rw [hr0] at hrp
    subst hrp
    clear hgood hbad her
    have ht0 : decide (m.ty = 0) = false := by simp; omega
    have ht4 : decide (m.ty = 4) = false := by simp; omega
    obtain ⟨i0, hi0, hz0, hz1, hz2⟩ := info_parts info217
    have hu161 := u161
    go_enter Tryz.func78, Tryz.ntmps78
    go_upto_region 8 with (go_at_call 126; refine HD.out.mono ?_; rintro e w3 ⟨hb3, aa, as_, am, ca, cs, cm, rfl⟩)
    obtain ⟨W4, hW4⟩ : ∃ W4, w3.alloc (.cells #[.int .i64 m.id, .bool false, .int .i64 0, .string m.name, .int .i64 m.ty, .slice aa 0 ca, .slice as_ 0 cs, .slice am 0 cm] 27) = W4 := ⟨_, rfl⟩
    have hb4 : Below w3.heap.size w3 W4 := by rw [← hW4]; exact (Below.refl _ _).alloc (Nat.le_refl _) _
    have e4 : W4.heap[w3.heap.size]? = some (.cells #[.int .i64 m.id, .bool false, .int .i64 0, .string m.name, .int .i64 m.ty, .slice aa 0 ca, .slice as_ 0 cs, .slice am 0 cm] 27 (0, 0)) := by rw [← hW4]; exact World.alloc_heap_new w3 _
    obtain ⟨f0, f1, f2, f3, f4, f5, f6, f7⟩ := cells8 e4
    have hB4 : Below W2.heap.size W2 W4 := hb3.trans (hb4.mono hb3.size)
    rw [hW4]
    clear hW4 e4 hb4 hb3 hW2 y9 y10 fy
    go_upto_region 13 with fail
    obtain ⟨W5, hW5, g5, r5, t5, s5, hb5⟩ := allocs3 W4 (.cells #[.string m.name, .string m.name, .int .i64 m.ty, .slice none 0 0, .slice none 0 0, .slice none 0 0] 226) (.cells #[.pointer (some ⟨W4.heap.size, 0, none⟩)] 222) (.cells #[.int .i64 s.asked, .int .i64 m.id, .bool false, .int .i64 0, .string m.name, .int .i64 m.ty, .slice aa 0 ca, .slice as_ 0 cs, .slice am 0 cm, .slice (some ⟨W4.heap.size + 1, 0, none⟩) 1 1, .int .i64 0, .int .i64 0, .int .i64 0, .int .i64 0, .string ⟨#[]⟩, .int .i64 0, .string ⟨#[]⟩] 220)
    rw [hW5]
    have hB5 : Below W2.heap.size W2 W5 := hB4.trans (hb5.mono hB4.size)
    have z4 := hB4.size
    have z5 := hB5.size
    have hrow5 : W5.ownsRow 0 217 1 (.slice ta ps.length tc) ps.length (ps.map fun p => Value.pointer (some ⟨p.1.tb, 0, none⟩)) := own_same hC2.tasks fun j e => hB5.block j (hC2.tasks.lt j e).2
    have c10 : W5.cell? ⟨y, 10, none⟩ = some (.slice ta ps.length tc) := by
     rw [cell_blk ((hB5.block y (hC2.lt y hC2.own.1)).trans hC2.res)]; rfl
    have HK : Hid (∀ o w6 g6 c6, w6.ownsRow 0 217 1 (.slice (some ⟨g6, 0, none⟩) (ps.length + 1) c6) (ps.length + 1) ((ps.map fun p => Value.pointer (some ⟨p.1.tb, 0, none⟩)) ++ [.pointer (some ⟨W4.heap.size + 1 + 1, 0, none⟩)]) → Lies (W5.alloc o) w6 (.slice ta ps.length tc) g6 →
      w6.cell? ⟨y, 10, none⟩ = some (.slice ta ps.length tc) ∧ w6.frozen? ⟨y, 10, none⟩ = false ∧ Calls Tryz.prog 129 #[.pointer (some ⟨y, 0, none⟩), .pointer (some ⟨W4.heap.size + 1 + 1, 0, none⟩)] (w6.setCell ⟨y, 10, none⟩ (.slice (some ⟨g6, 0, none⟩) (ps.length + 1) c6)) fun e w' => e = .returned (.tuple #[]) ∧ ∃ F', RRs w' F' y (askS s b id) ∧ Keeps F w w' ∧ (∀ j, F' j → F j ∨ w.heap.size ≤ j)) := by
     intro o w6 g6 c6 r6 L6
     obtain ⟨a1, a2, F7, a3, a4, a5⟩ := hC2.add hB5 t5 r5 g5 ⟨by omega, by omega, by omega⟩ o w6 g6 c6 r6 L6
     refine ⟨a1, a2, ?_⟩
     have htk : TkOk (newTk s.asked m) (k + 1) := ⟨⟨hs.asked.1, by have := hs.asked.2; show s.asked ≤ _; omega⟩, hid', hnm, hty, fun _ => ⟨Int.le_refl _, show (0 : Int) ≤ 3 by decide⟩, ⟨Int.le_refl _, show (0 : Int) ≤ 16 by decide⟩, ⟨Int.le_refl _, by show (0 : Int) ≤ _; omega⟩⟩
     have h8p : ps.length < 8 := by omega
     refine (qwork_any y F7 s1 ps [] _ (newTk s.asked m) vh _ vs vr rid (k + 1) n _ a3 hs1ok htk hn (by simp; omega)).mono ?_
     rintro e w7 ⟨rfl, F8, r, vt8, vs8, vr8, rid8, b1, b2, b3, b4⟩
     refine ⟨rfl, F8, ⟨ps ++ r, vh, vt8, vs8, vr8, rid8, ?_, ?_⟩, (HK2.out.then a4 fun j hj => .inl hj).then b3 fun j hj => ?_, fun j hj => ?_⟩
     ·rw [ask_eq_some hm, ← hs1]
      rw [List.append_nil] at b1
      exact ⟨b1.res, b1.rid, b1.hint, b1.tasks, b1.sent, b1.reps, b1.task, b1.nod, b1.own, b1.lt, b1.zero⟩
     ·rw [ask_eq_some hm, ← hs1]
      show s.tasks ++ (workS s1 (newTk s.asked m)).2 = _
      rw [HTS.out, List.map_append, b2]
     ·rcases a5 j hj with h | h
      ·exact .inl h
      ·exact .inr (by omega)
     ·rcases b4 j hj with h | h
      ·rcases a5 j h with h | h
       ·exact .inl h
       ·exact .inr (by omega)
      ·exact .inr (by have := a4.size; omega)
    clear s5 hW5 g5 r5 t5 hb5 hB5 hB4 hC2 f0 f1 f2 f3 f4 f5 f6 f7 hs1ok z4
    go_wp2_with (at_builtin; (refine wpList_append_two _ rfl _ _ 161 rfl 0 217 i0 (.pointer none) 1 8 hu161 hi0 hz0 hz1 hz2 rfl _ _ _ rfl (hrow5.alloc _) ⟨W5.heap.size, 0, none⟩ 1 1 [.pointer (some ⟨W4.heap.size + 1 + 1, 0, none⟩)] rfl rfl (World.news_of_block (Go.heap_alloc_new _ _)) (by intro u hu; simp at hu; rw [hu]; rfl) (by decide) (by unfold maxLen; omega) (by omega) (Nat.zero_le _) ?_))
    intro g6 c6 w6 r6 o6 L6
    obtain ⟨e1, e2, e3⟩ := HK.out _ w6 g6 c6 r6 L6
    have HE3 := hid e3
    clear r6 o6 L6 e3 hrow5
    go_wp2_with (go_at_call 129; refine HE3.out.mono ?_; rintro e w7 ⟨rfl, HE⟩)
    go_ret2
    exact ⟨rfl, HE⟩
   | none =>
    have hbad' : er = 2 ∨ code ≠ 0 ∨ 0 < na ∨ 0 < ns ∨ 0 < nn ∨ ty = 0 ∨ ty = 4 := hbad.resolve_right (by rw [hm]; exact fun h => h rfl)
    clear hgood hbad
    go_enter Tryz.func78, Tryz.ntmps78
    go_upto_region 8 with (go_at_call 126; refine HD.out.mono ?_; rintro e w3 ⟨hb3, aa, as_, am, ca, cs, cm, rfl⟩)
    obtain ⟨W4, hW4⟩ : ∃ W4, w3.alloc (.cells #[.int .i64 id', .bool rp, .int .i64 code, .string nm, .int .i64 ty, .slice aa na ca, .slice as_ ns cs, .slice am nn cm] 27) = W4 := ⟨_, rfl⟩
    have hb4 : Below w3.heap.size w3 W4 := by rw [← hW4]; exact (Below.refl _ _).alloc (Nat.le_refl _) _
    have e4 : W4.heap[w3.heap.size]? = some (.cells #[.int .i64 id', .bool rp, .int .i64 code, .string nm, .int .i64 ty, .slice aa na ca, .slice as_ ns cs, .slice am nn cm] 27 (0, 0)) := by rw [← hW4]; exact World.alloc_heap_new w3 _
    obtain ⟨f0, f1, f2, f3, f4, f5, f6, f7⟩ := cells8 e4
    have hB4 : Below W2.heap.size W2 W4 := hb3.trans (hb4.mono hb3.size)
    rw [hW4]
    clear hW4 e4 hb4 hb3 hW2 y9 y10 fy
    obtain ⟨Y, hY⟩ : ∃ Y, W4.drew = Y := ⟨_, rfl⟩
    have hBY : Below W2.heap.size W2 Y := by rw [← hY]; exact hB4.drew
    have hwc0 : IntKind.i64.wrap (c0 : Int) = (c0 : Int) := by rw [IntKind.wrap_i64]; omega
    have hwc1 : IntKind.i64.wrap (c1 : Int) = (c1 : Int) := by rw [IntKind.wrap_i64]; omega
    have hwm : IntKind.i64.wrap (256 * (c1 : Int)) = 256 * (c1 : Int) := by rw [IntKind.wrap_i64]; omega
    have hwa : IntKind.i64.wrap ((c0 : Int) + 256 * (c1 : Int)) = id := by rw [IntKind.wrap_i64, hidv]; omega
    have HB : Hid (Calls Tryz.prog 128 #[.pointer (some ⟨y, 0, none⟩), .pointer (some ⟨Y.heap.size, 0, none⟩), .int .i64 1, .slice none 0 0] (Y.alloc (.cells #[.int .i64 s.asked, .int .i64 id, .bool false, .int .i64 0, .string ⟨#[]⟩, .int .i64 0, .slice none 0 0, .slice none 0 0, .slice none 0 0, .slice none 0 0, .int .i64 0, .int .i64 0, .int .i64 0, .int .i64 0, .string ⟨#[]⟩, .int .i64 0, .string ⟨#[]⟩] 220)) fun e w' => e = .returned (.tuple #[]) ∧ ∃ F', RRs w' F' y (askS s b id) ∧ Keeps F w w' ∧ (∀ j, F' j → F j ∨ w.heap.size ≤ j)) := by
     have hBZ : Below W2.heap.size W2 (Y.alloc (.cells #[.int .i64 s.asked, .int .i64 id, .bool false, .int .i64 0, .string ⟨#[]⟩, .int .i64 0, .slice none 0 0, .slice none 0 0, .slice none 0 0, .slice none 0 0, .int .i64 0, .int .i64 0, .int .i64 0, .int .i64 0, .string ⟨#[]⟩, .int .i64 0, .string ⟨#[]⟩] 220)) := hBY.alloc hBY.size _
     have hC6 : RRc (Y.alloc (.cells #[.int .i64 s.asked, .int .i64 id, .bool false, .int .i64 0, .string ⟨#[]⟩, .int .i64 0, .slice none 0 0, .slice none 0 0, .slice none 0 0, .slice none 0 0, .int .i64 0, .int .i64 0, .int .i64 0, .int .i64 0, .string ⟨#[]⟩, .int .i64 0, .string ⟨#[]⟩] 220)) F y s1 ps vh (.slice ta ps.length tc) vs vr rid := hC2.same hBZ.size fun j hj => hBZ.block j (hC2.lt j hj)
     have hl : (ps.map tbOf).length = ps.length := List.length_map _
     have hrow6 := hC6.tasks
     have hres6 := hC6.res
     have hrep6 := hC6.reps
     have hsr : s1.replies = s.replies := by rw [hs1]
     rw [map_tb] at hrow6
     rw [e3] at hres6 hrep6
     rw [hsr] at hrep6
     refine (rreply_rep y Y.heap.size vh vs _ _ _ _ s1.en s1.tr s1.pa s1.mx s1.now rid s1.asked s.asked id 1 ⟨#[]⟩ 0 0 0 0 0 ⟨#[]⟩ 0 ⟨#[]⟩ ta ra tc rc (ps.map tbOf) s.replies _ (by rw [hl]; exact hres6) (World.alloc_heap_new _ _) (by rw [hl]; exact hrow6) hrep6 (by decide) (by have := hs.replies; omega) (by rw [hl]; omega) (fun b' hb' => ?_)).mono ?_
     ·obtain ⟨p, hp', rfl⟩ := List.mem_map.1 hb'
      obtain ⟨_, _, _, _, _, _, _, _, _, _, _, _, q⟩ := (hC6.task p hp').task
      exact ⟨_, q⟩
     ·rintro e w7 ⟨rfl, hR7⟩
      rw [← e3] at hR7
      obtain ⟨F', vt', vr', b1, b2, b3⟩ := hC6.tell (tb := Y.heap.size) (fun hm' => by
       obtain ⟨p, hp', e⟩ := List.mem_map.1 hm'
       have h1 := hC2.lt _ (hC2.own.2.2.2.2.2 p hp' p.1.tb (.inl rfl))
       have h2 := hBY.size
       have h3 : p.1.tb = Y.heap.size := e
       omega) hR7
      refine ⟨rfl, F', ⟨ps, vh, vt', vs, vr', rid, ?_, ?_⟩, (HK2.out.below hBZ).trans b2, fun j hj => ?_⟩
      ·rw [ask_eq_none hm]
       have e5 : { s1 with replies := s.replies ++ [(s.asked, rB id 1 ⟨#[]⟩ 0)] } = { s with asked := s.asked + 1, replies := s.replies ++ [(s.asked, rB id 1 ⟨#[]⟩ 0)] } := by rw [hs1]
       rw [← e5]
       exact b1
      ·rw [ask_eq_none hm]; exact HTS.out
      ·rcases b3 j hj with h | h
       ·exact .inl h
       ·exact .inr (by have := hBZ.size; omega)
    clear hC2 hBY hB4 hs1ok hidv
    by_cases k0 : er = 2
    ·subst k0
     go_wp2
     refine wp_region_held_drew (S := fun _ => True) (by kernel_rfl) trivial (fun hS => ?_)
     rw [hY]
     refine tkS (i := 0) (v := .int .i64 s.asked) rfl hS ?_
     refine tkS (i := 1) (v := .string b) rfl hS ?_
     refine tkS (i := 2) (v := .int .u8 c0) rfl hS ?_
     refine tkS (i := 3) (v := .int .i64 c0) rfl hS ?_
     refine tkS (i := 4) (v := .string b) rfl hS ?_
     refine tkS (i := 5) (v := .int .u8 c1) rfl hS ?_
     refine tkS (i := 6) (v := .int .i64 c1) rfl hS ?_
     refine tkS (i := 7) (v := .int .i64 (256 * c1)) rfl hS ?_
     refine tkS (i := 8) (v := .int .i64 id) rfl hS ?_
     refine tkS (i := 9) (v := .agg #[.int .i64 id, .bool false, .int .i64 0, .string ⟨#[]⟩, .int .i64 0, .slice none 0 0, .slice none 0 0, .slice none 0 0]) rfl hS ?_
     refine tkS (i := 10) (v := .agg #[.int .i64 s.asked, .int .i64 id, .bool false, .int .i64 0, .string ⟨#[]⟩, .int .i64 0, .slice none 0 0, .slice none 0 0, .slice none 0 0, .slice none 0 0, .int .i64 0, .int .i64 0, .int .i64 0, .int .i64 0, .string ⟨#[]⟩, .int .i64 0, .string ⟨#[]⟩]) rfl hS ?_
     refine wpAnyH_ready (rs := [11]) (by kernel_rfl) (by simp) ?_
     refine AllReadyH.cons rfl (fun K hK => ?_) AllReadyH.nil
     go_simp
     refine hK.out _ _ trivial fun hS => ?_
     refine tkS (i := 12) (v := .pointer (some ⟨Y.heap.size, 0, none⟩)) rfl hS ?_
     refine wpAnyH_done (by kernel_rfl) ?_ _
     clear hS
     go_wp2_with (go_at_call 128; refine HB.out.mono ?_; rintro e w6 ⟨rfl, HE⟩)
     go_ret2
     exact ⟨rfl, HE⟩
    obtain rfl : er = 0 := her.resolve_right k0
    by_cases k1 : code = 0
    ·subst k1
     by_cases k2 : na = 0
     ·subst k2
      by_cases k3 : ns = 0
      ·subst k3
       by_cases k4 : nn = 0
       ·subst k4
        have k5 : ty = 0 ∨ ty = 4 := by omega
        rcases k5 with rfl | rfl
        ·clear hbad'
         go_wp2
         refine wp_region_held_drew (S := fun _ => True) (by kernel_rfl) trivial (fun hS => ?_)
         rw [hY]
         refine tkS (i := 0) (v := .int .i64 s.asked) rfl hS ?_
         refine tkS (i := 1) (v := .string b) rfl hS ?_
         refine tkS (i := 2) (v := .int .u8 c0) rfl hS ?_
         refine tkS (i := 3) (v := .int .i64 c0) rfl hS ?_
         refine tkS (i := 4) (v := .string b) rfl hS ?_
         refine tkS (i := 5) (v := .int .u8 c1) rfl hS ?_
         refine tkS (i := 6) (v := .int .i64 c1) rfl hS ?_
         refine tkS (i := 7) (v := .int .i64 (256 * c1)) rfl hS ?_
         refine tkS (i := 8) (v := .int .i64 id) rfl hS ?_
         refine tkS (i := 9) (v := .agg #[.int .i64 id, .bool false, .int .i64 0, .string ⟨#[]⟩, .int .i64 0, .slice none 0 0, .slice none 0 0, .slice none 0 0]) rfl hS ?_
         refine tkS (i := 10) (v := .agg #[.int .i64 s.asked, .int .i64 id, .bool false, .int .i64 0, .string ⟨#[]⟩, .int .i64 0, .slice none 0 0, .slice none 0 0, .slice none 0 0, .slice none 0 0, .int .i64 0, .int .i64 0, .int .i64 0, .int .i64 0, .string ⟨#[]⟩, .int .i64 0, .string ⟨#[]⟩]) rfl hS ?_
         refine wpAnyH_ready (rs := [11]) (by kernel_rfl) (by simp) ?_
         refine AllReadyH.cons rfl (fun K hK => ?_) AllReadyH.nil
         go_simp
         refine hK.out _ _ trivial fun hS => ?_
         refine tkS (i := 12) (v := .pointer (some ⟨Y.heap.size, 0, none⟩)) rfl hS ?_
         refine wpAnyH_done (by kernel_rfl) ?_ _
         clear hS
         go_wp2_with (go_at_call 128; refine HB.out.mono ?_; rintro e w6 ⟨rfl, HE⟩)
         go_ret2
         exact ⟨rfl, HE⟩
        ·clear hbad'
         go_wp2
         refine wp_region_held_drew (S := fun _ => True) (by kernel_rfl) trivial (fun hS => ?_)
         rw [hY]
         refine tkS (i := 0) (v := .int .i64 s.asked) rfl hS ?_
         refine tkS (i := 1) (v := .string b) rfl hS ?_
         refine tkS (i := 2) (v := .int .u8 c0) rfl hS ?_
         refine tkS (i := 3) (v := .int .i64 c0) rfl hS ?_
         refine tkS (i := 4) (v := .string b) rfl hS ?_
         refine tkS (i := 5) (v := .int .u8 c1) rfl hS ?_
         refine tkS (i := 6) (v := .int .i64 c1) rfl hS ?_
         refine tkS (i := 7) (v := .int .i64 (256 * c1)) rfl hS ?_
         refine tkS (i := 8) (v := .int .i64 id) rfl hS ?_
         refine tkS (i := 9) (v := .agg #[.int .i64 id, .bool false, .int .i64 0, .string ⟨#[]⟩, .int .i64 0, .slice none 0 0, .slice none 0 0, .slice none 0 0]) rfl hS ?_
         refine tkS (i := 10) (v := .agg #[.int .i64 s.asked, .int .i64 id, .bool false, .int .i64 0, .string ⟨#[]⟩, .int .i64 0, .slice none 0 0, .slice none 0 0, .slice none 0 0, .slice none 0 0, .int .i64 0, .int .i64 0, .int .i64 0, .int .i64 0, .string ⟨#[]⟩, .int .i64 0, .string ⟨#[]⟩]) rfl hS ?_
         refine wpAnyH_ready (rs := [11]) (by kernel_rfl) (by simp) ?_
         refine AllReadyH.cons rfl (fun K hK => ?_) AllReadyH.nil
         go_simp
         refine hK.out _ _ trivial fun hS => ?_
         refine tkS (i := 12) (v := .pointer (some ⟨Y.heap.size, 0, none⟩)) rfl hS ?_
         refine wpAnyH_done (by kernel_rfl) ?_ _
         clear hS
         go_wp2_with (go_at_call 128; refine HB.out.mono ?_; rintro e w6 ⟨rfl, HE⟩)
         go_ret2
         exact ⟨rfl, HE⟩
       ·have kd : decide (0 < nn) = true := by simp; omega
        clear hbad'
        go_wp2
        refine wp_region_held_drew (S := fun _ => True) (by kernel_rfl) trivial (fun hS => ?_)
        rw [hY]
        refine tkS (i := 0) (v := .int .i64 s.asked) rfl hS ?_
        refine tkS (i := 1) (v := .string b) rfl hS ?_
        refine tkS (i := 2) (v := .int .u8 c0) rfl hS ?_
        refine tkS (i := 3) (v := .int .i64 c0) rfl hS ?_
        refine tkS (i := 4) (v := .string b) rfl hS ?_
        refine tkS (i := 5) (v := .int .u8 c1) rfl hS ?_
        refine tkS (i := 6) (v := .int .i64 c1) rfl hS ?_
        refine tkS (i := 7) (v := .int .i64 (256 * c1)) rfl hS ?_
        refine tkS (i := 8) (v := .int .i64 id) rfl hS ?_
        refine tkS (i := 9) (v := .agg #[.int .i64 id, .bool false, .int .i64 0, .string ⟨#[]⟩, .int .i64 0, .slice none 0 0, .slice none 0 0, .slice none 0 0]) rfl hS ?_
        refine tkS (i := 10) (v := .agg #[.int .i64 s.asked, .int .i64 id, .bool false, .int .i64 0, .string ⟨#[]⟩, .int .i64 0, .slice none 0 0, .slice none 0 0, .slice none 0 0, .slice none 0 0, .int .i64 0, .int .i64 0, .int .i64 0, .int .i64 0, .string ⟨#[]⟩, .int .i64 0, .string ⟨#[]⟩]) rfl hS ?_
        refine wpAnyH_ready (rs := [11]) (by kernel_rfl) (by simp) ?_
        refine AllReadyH.cons rfl (fun K hK => ?_) AllReadyH.nil
        go_simp
        refine hK.out _ _ trivial fun hS => ?_
        refine tkS (i := 12) (v := .pointer (some ⟨Y.heap.size, 0, none⟩)) rfl hS ?_
        refine wpAnyH_done (by kernel_rfl) ?_ _
        clear hS
        go_wp2_with (go_at_call 128; refine HB.out.mono ?_; rintro e w6 ⟨rfl, HE⟩)
        go_ret2
        exact ⟨rfl, HE⟩
      ·have kd : decide (0 < ns) = true := by simp; omega
       clear hbad'
       go_wp2
       refine wp_region_held_drew (S := fun _ => True) (by kernel_rfl) trivial (fun hS => ?_)
       rw [hY]
       refine tkS (i := 0) (v := .int .i64 s.asked) rfl hS ?_
       refine tkS (i := 1) (v := .string b) rfl hS ?_
       refine tkS (i := 2) (v := .int .u8 c0) rfl hS ?_
       refine tkS (i := 3) (v := .int .i64 c0) rfl hS ?_
       refine tkS (i := 4) (v := .string b) rfl hS ?_
       refine tkS (i := 5) (v := .int .u8 c1) rfl hS ?_
       refine tkS (i := 6) (v := .int .i64 c1) rfl hS ?_
       refine tkS (i := 7) (v := .int .i64 (256 * c1)) rfl hS ?_
       refine tkS (i := 8) (v := .int .i64 id) rfl hS ?_
       refine tkS (i := 9) (v := .agg #[.int .i64 id, .bool false, .int .i64 0, .string ⟨#[]⟩, .int .i64 0, .slice none 0 0, .slice none 0 0, .slice none 0 0]) rfl hS ?_
       refine tkS (i := 10) (v := .agg #[.int .i64 s.asked, .int .i64 id, .bool false, .int .i64 0, .string ⟨#[]⟩, .int .i64 0, .slice none 0 0, .slice none 0 0, .slice none 0 0, .slice none 0 0, .int .i64 0, .int .i64 0, .int .i64 0, .int .i64 0, .string ⟨#[]⟩, .int .i64 0, .string ⟨#[]⟩]) rfl hS ?_
       refine wpAnyH_ready (rs := [11]) (by kernel_rfl) (by simp) ?_
       refine AllReadyH.cons rfl (fun K hK => ?_) AllReadyH.nil
       go_simp
       refine hK.out _ _ trivial fun hS => ?_
       refine tkS (i := 12) (v := .pointer (some ⟨Y.heap.size, 0, none⟩)) rfl hS ?_
       refine wpAnyH_done (by kernel_rfl) ?_ _
       clear hS
       go_wp2_with (go_at_call 128; refine HB.out.mono ?_; rintro e w6 ⟨rfl, HE⟩)
       go_ret2
       exact ⟨rfl, HE⟩
     ·have kd : decide (0 < na) = true := by simp; omega
      clear hbad'
      go_wp2
      refine wp_region_held_drew (S := fun _ => True) (by kernel_rfl) trivial (fun hS => ?_)
      rw [hY]
      refine tkS (i := 0) (v := .int .i64 s.asked) rfl hS ?_
      refine tkS (i := 1) (v := .string b) rfl hS ?_
      refine tkS (i := 2) (v := .int .u8 c0) rfl hS ?_
      refine tkS (i := 3) (v := .int .i64 c0) rfl hS ?_
      refine tkS (i := 4) (v := .string b) rfl hS ?_
      refine tkS (i := 5) (v := .int .u8 c1) rfl hS ?_
      refine tkS (i := 6) (v := .int .i64 c1) rfl hS ?_
      refine tkS (i := 7) (v := .int .i64 (256 * c1)) rfl hS ?_
      refine tkS (i := 8) (v := .int .i64 id) rfl hS ?_
      refine tkS (i := 9) (v := .agg #[.int .i64 id, .bool false, .int .i64 0, .string ⟨#[]⟩, .int .i64 0, .slice none 0 0, .slice none 0 0, .slice none 0 0]) rfl hS ?_
      refine tkS (i := 10) (v := .agg #[.int .i64 s.asked, .int .i64 id, .bool false, .int .i64 0, .string ⟨#[]⟩, .int .i64 0, .slice none 0 0, .slice none 0 0, .slice none 0 0, .slice none 0 0, .int .i64 0, .int .i64 0, .int .i64 0, .int .i64 0, .string ⟨#[]⟩, .int .i64 0, .string ⟨#[]⟩]) rfl hS ?_
      refine wpAnyH_ready (rs := [11]) (by kernel_rfl) (by simp) ?_
      refine AllReadyH.cons rfl (fun K hK => ?_) AllReadyH.nil
      go_simp
      refine hK.out _ _ trivial fun hS => ?_
      refine tkS (i := 12) (v := .pointer (some ⟨Y.heap.size, 0, none⟩)) rfl hS ?_
      refine wpAnyH_done (by kernel_rfl) ?_ _
      clear hS
      go_wp2_with (go_at_call 128; refine HB.out.mono ?_; rintro e w6 ⟨rfl, HE⟩)
      go_ret2
      exact ⟨rfl, HE⟩
    ·have kd : decide (code = 0) = false := by simpa using k1
     clear hbad'
     go_wp2
     refine wp_region_held_drew (S := fun _ => True) (by kernel_rfl) trivial (fun hS => ?_)
     rw [hY]
     refine tkS (i := 0) (v := .int .i64 s.asked) rfl hS ?_
     refine tkS (i := 1) (v := .string b) rfl hS ?_
     refine tkS (i := 2) (v := .int .u8 c0) rfl hS ?_
     refine tkS (i := 3) (v := .int .i64 c0) rfl hS ?_
     refine tkS (i := 4) (v := .string b) rfl hS ?_
     refine tkS (i := 5) (v := .int .u8 c1) rfl hS ?_
     refine tkS (i := 6) (v := .int .i64 c1) rfl hS ?_
     refine tkS (i := 7) (v := .int .i64 (256 * c1)) rfl hS ?_
     refine tkS (i := 8) (v := .int .i64 id) rfl hS ?_
     refine tkS (i := 9) (v := .agg #[.int .i64 id, .bool false, .int .i64 0, .string ⟨#[]⟩, .int .i64 0, .slice none 0 0, .slice none 0 0, .slice none 0 0]) rfl hS ?_
     refine tkS (i := 10) (v := .agg #[.int .i64 s.asked, .int .i64 id, .bool false, .int .i64 0, .string ⟨#[]⟩, .int .i64 0, .slice none 0 0, .slice none 0 0, .slice none 0 0, .slice none 0 0, .int .i64 0, .int .i64 0, .int .i64 0, .int .i64 0, .string ⟨#[]⟩, .int .i64 0, .string ⟨#[]⟩]) rfl hS ?_
     refine wpAnyH_ready (rs := [11]) (by kernel_rfl) (by simp) ?_
     refine AllReadyH.cons rfl (fun K hK => ?_) AllReadyH.nil
     go_simp
     refine hK.out _ _ trivial fun hS => ?_
     refine tkS (i := 12) (v := .pointer (some ⟨Y.heap.size, 0, none⟩)) rfl hS ?_
     refine wpAnyH_done (by kernel_rfl) ?_ _
     clear hS
     go_wp2_with (go_at_call 128; refine HB.out.mono ?_; rintro e w6 ⟨rfl, HE⟩)
     go_ret2
     exact ⟨rfl, HE⟩
end Go.Proofs.YtefdokkadckbbaaGreatDoor
