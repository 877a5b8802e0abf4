/- Rm Rn -/
import Derived.Test.YtefdokkadckbbaaGreatDoorZ42
import Derived.Test.YtefdokkadckbbaaGreatDoorZ48
import Derived.Test.YtefdokkadckbbaaGreatDoorZ50
section
namespace Go.Proofs.YtefdokkadckbbaaGreatDoor
open Go.RowKit
set_option maxRecDepth 100000
def pickN (k : Int) (n : Nat) : Nat := if k < 0 then 0 else if (n : Int) ≤ k then 0 else k.toNat
theorem pickN_lt {k : Int} {n : Nat} (h : 0 < n) : pickN k n < n := by
 unfold pickN
 split
 ·exact h
 ·split
  ·exact h
  ·omega
set_option maxHeartbeats 1000000 in
theorem pick_def (k : Int) (n : Nat) (w : World) : Calls Tryz.prog 77 #[.int .i64 k, .int .i64 n] w fun e w' => e = .returned (.int .i64 (pickN k n)) ∧ w' = w := by
 unfold pickN
 by_cases h0 : k < 0
 ·rw [if_pos h0]
  go_enter Tryz.func77, Tryz.ntmps77
  go_wp2
  go_ret
  exact ⟨rfl, rfl⟩
 ·rw [if_neg h0]
  have hd0 : decide (k < 0) = false := decide_eq_false h0
  by_cases h1 : (n : Int) ≤ k
  ·rw [if_pos h1]
   go_enter Tryz.func77, Tryz.ntmps77
   go_wp2
   go_ret
   exact ⟨rfl, rfl⟩
  ·rw [if_neg h1]
   have hd1 : decide (k ≥ (n : Int)) = false := decide_eq_false h1
   obtain ⟨i, rfl⟩ : ∃ i : Nat, k = (i : Int) := ⟨k.toNat, by omega⟩
   go_enter Tryz.func77, Tryz.ntmps77
   go_wp2
   go_ret
   exact ⟨rfl, rfl⟩
theorem newRs_ok {hs : List Int} {en tr pa mx : Int} (h : cfgOk hs en tr pa mx = true) (k n : Nat) : RsOk (newRs hs en tr pa mx) k n := by
 rw [cfg_eq, Bool.and_eq_true, decide_eq_true_eq] at h
 obtain ⟨h1, h2⟩ := h
 unfold baseOk at h1
 refine ⟨by show 1 ≤ hs.length ∧ hs.length ≤ 3; omega, fun a ha => ?_, ?_, ?_, ?_, ?_, ⟨Int.le_refl _, by show (0 : Int) ≤ _; omega⟩, ⟨by show (0 : Int) ≤ 1; decide, by show (1 : Int) ≤ 65535; decide⟩, ⟨Int.le_refl _, by show (0 : Int) ≤ _; omega⟩, Nat.zero_le _, Nat.zero_le _, Nat.zero_le _, fun t ht => by cases ht⟩
 ·have := List.all_eq_true.1 h2 a ha
  unfold addrOk at this
  simp only [Bool.and_eq_true, decide_eq_true_eq] at this
  exact this
 ·show 4 ≤ en ∧ en ≤ 64; omega
 ·show 1 ≤ tr ∧ tr ≤ 3; omega
 ·show 1 ≤ pa ∧ pa ≤ 20; omega
 ·show 1 ≤ mx ∧ mx ≤ 1000; omega
theorem askS_ok {s : Rs} {k n : Nat} {b : ByteArray} {id : Int} (h : RsOk s k n) (h8 : s.tasks.length < 8) (hq : qidS (tl b) = some id) : RsOk (askS s b id) (k + 1) (n + 1) := by
 have hs1 : RsOk { s with asked := s.asked + 1 } (k + 1) n := ⟨h.hs, h.hint, h.en, h.tr, h.pa, h.mx, ⟨h.now.1, by have := h.now.2; show s.now ≤ _; omega⟩, h.nid, ⟨by have := h.asked.1; show 0 ≤ s.asked + 1; omega, by have := h.asked.2; show s.asked + 1 ≤ _; omega⟩, h.sent, h.replies, h.tasks, fun t ht => (h.task t ht).mono (Nat.le_succ _)⟩
 cases hm : askOk (msgS (tl b)) with
 | some m =>
  rw [ask_eq_some hm]
  obtain ⟨_, hid', hnm, hty⟩ := ask_ok hm hq
  have htk : TkOk (newTk s.asked m) (k + 1) := ⟨⟨h.asked.1, by have := h.asked.2; show s.asked ≤ _; omega⟩, hid', hnm, hty, fun _ => ⟨Int.le_refl _, show (0 : Int) ≤ 3 by decide⟩, ⟨Int.le_refl _, show (0 : Int) ≤ 16 by decide⟩, ⟨Int.le_refl _, by show (0 : Int) ≤ _; omega⟩⟩
  obtain ⟨w1, w2, w3⟩ := work_ok hs1 htk
  refine ⟨w1.hs, w1.hint, w1.en, w1.tr, w1.pa, w1.mx, w1.now, w1.nid, w1.asked, w1.sent, w1.replies, ?_, fun t ht => ?_⟩
  ·show (s.tasks ++ _).length ≤ 8
   rw [List.length_append]; omega
  ·rcases List.mem_append.1 ht with ht | ht
   ·exact (h.task t ht).mono (Nat.le_succ _)
   ·exact w2 t ht
 | none =>
  rw [ask_eq_none hm]
  refine ⟨h.hs, h.hint, h.en, h.tr, h.pa, h.mx, hs1.now, h.nid, hs1.asked, Nat.le_succ_of_le h.sent, ?_, h.tasks, hs1.task⟩
  show (s.replies ++ [_]).length ≤ n + 1
  have := h.replies
  rw [List.length_append]; simp; omega
structure LawI (w0 W : World) (B m : Nat) : Prop where
 ex : ∃ (O : Nat → Prop) (vl ps pm as_ am es em : Value) (prs : List Pr) (P A E : List Ent) (nx : Nat), LawS W w0.heap.size O B vl ps pm as_ am es em prs P A E nx ∧ (∀ p ∈ prs, p.t = p.s ∧ RsOk p.s m (9 * m)) ∧ (prs.length ≤ m + 1 ∧ prs ≠ []) ∧ P.length ≤ 4 * m ∧ A.length ≤ 4 * m ∧ E.length ≤ 4 * m ∧ nx ≤ 3 * m
 low : Below w0.heap.size w0 W
 good : Good W
section
variable {w0 W W' : World} {B m : Nat} {O : Nat → Prop} {vl ps pm as_ am es em : Value} {prs X Y : List Pr} {p : Pr} {P A E : List Ent} {nx : Nat}
theorem rs_more {prs : List Pr} {m : Nat} (h : ∀ p ∈ prs, p.t = p.s ∧ RsOk p.s m (9 * m)) : ∀ p ∈ prs, p.t = p.s ∧ RsOk p.s (m + 1) (9 * (m + 1)) := fun p hp => ⟨(h p hp).1, (h p hp).2.mono (Nat.le_succ _) (by omega)⟩
theorem good_low {w0 W : World} (hG : Good w0) (hb : Below w0.heap.size w0 W) : Good W := hG.below hb
theorem law_tick (h : LawS W w0.heap.size O B vl ps pm as_ am es em (X ++ p :: Y) P A E nx) (hG0 : Good w0) (hl : Below w0.heap.size w0 W) (hrs : ∀ q ∈ X ++ p :: Y, q.t = q.s ∧ RsOk q.s m (9 * m)) (hlen : (X ++ p :: Y).length ≤ m + 1) (hb : P.length ≤ 4 * m ∧ A.length ≤ 4 * m ∧ E.length ≤ 4 * m ∧ nx ≤ 3 * m) (hm : m ≤ 1048576) :
  Calls Tryz.prog 23 #[.pointer (some ⟨p.x, 0, none⟩)] W fun e w1 => e = .returned (.tuple #[]) ∧ w1.cell? ⟨p.pb, 1, none⟩ = some (.pointer (some ⟨p.y, 0, none⟩)) ∧ Hid (Calls Tryz.prog 82 #[.pointer (some ⟨p.y, 0, none⟩)] w1 fun e w2 => e = .returned (.tuple #[]) ∧ LawI w0 w2 B (m + 1)) := by
 have hpm : p ∈ X ++ p :: Y := List.mem_append_right _ List.mem_cons_self
 obtain ⟨heq, hok⟩ := hrs p hpm
 have hp := h.ok p hpm
 have hG : Good W := good_low hG0 hl
 refine (rtick_any p.x p.F p.s m (9 * m) W hp.pr hok hG (by omega) (by omega)).mono ?_
 rintro e w1 ⟨rfl, F', hP1, hK1, hF1⟩
 have hR1 : RRs w1 p.G p.y p.t := hp.rr.keeps hK1 fun k hk hf => hp.dis k hf hk
 have hq1 : PrOk w1 ⟨p.pb, p.x, p.y, F', p.G, tickS p.s, p.t⟩ := ⟨(hK1.block _ (h.lt _ (h.own.2.2 p hpm)) (h.dis.1 p hpm _ (h.own.2.2 p hpm)).1).trans hp.pair, hP1, hR1, fun k h1 h2 => by
  rcases hF1 k h1 with h' | h'
  ·exact hp.dis k h' h2
  ·have := hp.rr.lt k h2; omega⟩
 have h1 := h.swap (q := ⟨p.pb, p.x, p.y, F', p.G, tickS p.s, p.t⟩) hK1 (fun k hk => .inl hk) rfl hq1 (fun k hk => by
  rcases hk with hk | hk
  ·rcases hF1 k hk with h' | h'
   ·exact .inl (.inl h')
   ·exact .inr h'
  ·exact .inl (.inr hk))
 refine ⟨rfl, by rw [cell_blk hq1.pair]; rfl, ?_⟩
 have hq1' := hq1.rr
 simp only at hq1'
 rw [heq] at hq1'
 refine (qtick_any p.y p.G p.s m (9 * m) w1 hq1' hok (by omega) (by omega)).mono ?_
 rintro e w2 ⟨rfl, G', hR2, hK2, hG2⟩
 have hq2 : PrOk w2 ⟨p.pb, p.x, p.y, F', G', tickS p.s, tickS p.s⟩ := ⟨(hK2.block _ (h1.lt _ (h1.own.2.2 _ (List.mem_append_right _ List.mem_cons_self))) (h1.dis.1 _ (List.mem_append_right _ List.mem_cons_self) _ (h1.own.2.2 _ (List.mem_append_right _ List.mem_cons_self))).2).trans hq1.pair, hq1.pr.keeps hK2 fun k hk hg => hq1.dis k hk hg, hR2, fun k hk h2 => by
  rcases hG2 k h2 with h' | h'
  ·exact hq1.dis k hk h'
  ·have := hq1.pr.lt k hk; omega⟩
 have h2 := h1.swap (q := ⟨p.pb, p.x, p.y, F', G', tickS p.s, tickS p.s⟩) hK2 (fun k hk => .inr hk) rfl hq2 (fun k hk => by
  rcases hk with hk | hk
  ·exact .inl (.inl hk)
  ·rcases hG2 k hk with h' | h'
   ·exact .inl (.inr h')
   ·exact .inr h')
 have hlow1 : Below w0.heap.size W w1 := ⟨hK1.os, hK1.tape, hK1.output, hK1.size, fun k hk => hK1.block k (by have := hl.size; omega) fun hf => by have := h.base.2 p hpm k (.inl hf); omega⟩
 have hlow2 : Below w0.heap.size w1 w2 := ⟨hK2.os, hK2.tape, hK2.output, hK2.size, fun k hk => hK2.block k (by have := hl.size; have := hK1.size; omega) fun hf => by have := h.base.2 p hpm k (.inr hf); omega⟩
 have hl2 : Below w0.heap.size w0 w2 := (hl.trans hlow1).trans hlow2
 refine ⟨rfl, ⟨_, _, _, _, _, _, _, _, _, _, _, _, _, h2, fun q hq => ?_, ⟨by simp at hlen ⊢; omega, by simp⟩, by omega, by omega, by omega, by omega⟩, hl2, good_low hG0 hl2⟩
 rcases List.mem_append.1 hq with hq | hq
 ·exact rs_more hrs q (List.mem_append_left _ hq)
 ·rcases List.mem_cons.1 hq with rfl | hq
  ·exact ⟨rfl, (tick_ok hok).mono (Nat.le_refl _) (by omega)⟩
  ·exact rs_more hrs q (List.mem_append_right _ (List.mem_cons_of_mem _ hq))
theorem law_ask (h : LawS W w0.heap.size O B vl ps pm as_ am es em (X ++ p :: Y) P A E nx) (hG0 : Good w0) (hl : Below w0.heap.size w0 W) (hrs : ∀ q ∈ X ++ p :: Y, q.t = q.s ∧ RsOk q.s m (9 * m)) (hlen : (X ++ p :: Y).length ≤ m + 1) (hb : P.length ≤ 4 * m ∧ A.length ≤ 4 * m ∧ E.length ≤ 4 * m ∧ nx ≤ 3 * m) (hm : m ≤ 1048576) (b : ByteArray) (hbs : b.size ≤ 1048576) :
  ∃ r1 r2 : Int, Calls Tryz.prog 33 #[.pointer (some ⟨p.x, 0, none⟩), .string b] W fun e w1 => e = .returned (.tuple #[.int .i64 r1, .int .i64 r2]) ∧ Keeps p.F W w1 ∧ w1.cell? ⟨p.pb, 1, none⟩ = some (.pointer (some ⟨p.y, 0, none⟩)) ∧ Hid (∀ wd, Below w1.heap.size w1 wd → wd.cell? ⟨p.pb, 1, none⟩ = some (.pointer (some ⟨p.y, 0, none⟩)) ∧ Calls Tryz.prog 78 #[.pointer (some ⟨p.y, 0, none⟩), .string b] wd fun e w2 => e = .returned (.tuple #[.int .i64 r1, .int .i64 r2]) ∧ LawI w0 w2 B (m + 1) ∧ Keeps p.G wd w2) := by
 have hpm : p ∈ X ++ p :: Y := List.mem_append_right _ List.mem_cons_self
 obtain ⟨heq, hok⟩ := hrs p hpm
 have hp := h.ok p hpm
 have hG : Good W := good_low hG0 hl
 have hA := rask_any p.x p.F p.s m (9 * m) b W hp.pr hok hG (by omega) (by omega) hbs
 have still : ∀ (r1 r2 : Int) (w1 : World), Below W.heap.size W w1 → (∀ w, RRs w p.G p.y p.s → Calls Tryz.prog 78 #[.pointer (some ⟨p.y, 0, none⟩), .string b] w fun e w2 => e = .returned (.tuple #[.int .i64 r1, .int .i64 r2]) ∧ Below w.heap.size w w2) → Keeps p.F W w1 ∧ w1.cell? ⟨p.pb, 1, none⟩ = some (.pointer (some ⟨p.y, 0, none⟩)) ∧ Hid (∀ wd, Below w1.heap.size w1 wd → wd.cell? ⟨p.pb, 1, none⟩ = some (.pointer (some ⟨p.y, 0, none⟩)) ∧ Calls Tryz.prog 78 #[.pointer (some ⟨p.y, 0, none⟩), .string b] wd fun e w2 => e = .returned (.tuple #[.int .i64 r1, .int .i64 r2]) ∧ LawI w0 w2 B (m + 1) ∧ Keeps p.G wd w2) := by
  intro r1 r2 w1 hb1 hq
  have h1 := h.below hb1
  have hp1 := h1.ok p hpm
  refine ⟨keeps_of_below hb1, by rw [cell_blk hp1.pair]; rfl, ?_⟩
  intro wd hbd
  have hd := h1.below hbd
  have hpd := hd.ok p hpm
  refine ⟨by rw [cell_blk hpd.pair]; rfl, ?_⟩
  have hr := hpd.rr
  rw [heq] at hr
  refine (hq wd hr).mono ?_
  rintro e w2 ⟨rfl, hb2⟩
  have h2 := hd.below hb2
  have hl2 : Below w0.heap.size w0 w2 := ((hl.trans (hb1.mono hl.size)).trans (hbd.mono (by have := hl.size; have := hb1.size; omega))).trans (hb2.mono (by have := hl.size; have := hb1.size; have := hbd.size; omega))
  exact ⟨rfl, ⟨⟨_, _, _, _, _, _, _, _, _, _, _, _, _, h2, rs_more hrs, ⟨by omega, by simp⟩, by omega, by omega, by omega, by omega⟩, hl2, good_low hG0 hl2⟩, keeps_of_below hb2⟩
 cases hq : qidS (tl b) with
 | none =>
  refine ⟨0, 3, hA.mono ?_⟩
  intro e w1 hR
  unfold AskR at hR
  rw [hq] at hR
  obtain ⟨rfl, hb1⟩ := hR
  exact ⟨rfl, still 0 3 w1 hb1 fun w hr => (qask_any p.y p.G p.s m (9 * m) b w hr hok (by omega) (by omega) hbs).mono fun e w' hR => by
   unfold QAskR at hR
   rw [hq] at hR
   exact hR⟩
 | some id =>
  by_cases h8 : 8 ≤ p.s.tasks.length
  ·refine ⟨0, 4, hA.mono ?_⟩
   intro e w1 hR
   unfold AskR at hR
   rw [hq] at hR
   simp only [if_pos h8] at hR
   obtain ⟨rfl, hb1⟩ := hR
   exact ⟨rfl, still 0 4 w1 hb1 fun w hr => (qask_any p.y p.G p.s m (9 * m) b w hr hok (by omega) (by omega) hbs).mono fun e w' hR => by
    unfold QAskR at hR
    rw [hq] at hR
    simp only [if_pos h8] at hR
    exact hR⟩
  ·refine ⟨p.s.asked, 0, hA.mono ?_⟩
   intro e w1 hR
   unfold AskR at hR
   rw [hq] at hR
   simp only [if_neg h8] at hR
   obtain ⟨rfl, F', hP1, hK1, hF1⟩ := hR
   have hR1 : RRs w1 p.G p.y p.t := hp.rr.keeps hK1 fun k hk hf => hp.dis k hf hk
   have hq1 : PrOk w1 ⟨p.pb, p.x, p.y, F', p.G, askS p.s b id, p.t⟩ := ⟨(hK1.block _ (h.lt _ (h.own.2.2 p hpm)) (h.dis.1 p hpm _ (h.own.2.2 p hpm)).1).trans hp.pair, hP1, hR1, fun k h1 h2 => by
    rcases hF1 k h1 with h' | h'
    ·exact hp.dis k h' h2
    ·have := hp.rr.lt k h2; omega⟩
   have h1 := h.swap (q := ⟨p.pb, p.x, p.y, F', p.G, askS p.s b id, p.t⟩) hK1 (fun k hk => .inl hk) rfl hq1 (fun k hk => by
    rcases hk with hk | hk
    ·rcases hF1 k hk with h' | h'
     ·exact .inl (.inl h')
     ·exact .inr h'
    ·exact .inl (.inr hk))
   refine ⟨rfl, hK1, by rw [cell_blk hq1.pair]; rfl, ?_⟩
   intro wd hbd
   have hlow1 : Below w0.heap.size W w1 := ⟨hK1.os, hK1.tape, hK1.output, hK1.size, fun k hk => hK1.block k (by have := hl.size; omega) fun hf => by have := h.base.2 p hpm k (.inl hf); omega⟩
   have hlowd : Below w0.heap.size w1 wd := hbd.mono (by have := hl.size; have := hK1.size; omega)
   have h1 := h1.below hbd
   have hq1 := h1.ok _ (List.mem_append_right _ List.mem_cons_self)
   refine ⟨by rw [cell_blk hq1.pair]; rfl, ?_⟩
   have hq1' := hq1.rr
   simp only at hq1'
   rw [heq] at hq1'
   refine (qask_any p.y p.G p.s m (9 * m) b wd hq1' hok (by omega) (by omega) hbs).mono ?_
   intro e w2 hR
   unfold QAskR at hR
   rw [hq] at hR
   simp only [if_neg h8] at hR
   obtain ⟨rfl, G', hR2, hK2, hG2⟩ := hR
   have hq2 : PrOk w2 ⟨p.pb, p.x, p.y, F', G', askS p.s b id, askS p.s b id⟩ := ⟨(hK2.block _ (h1.lt _ (h1.own.2.2 _ (List.mem_append_right _ List.mem_cons_self))) (h1.dis.1 _ (List.mem_append_right _ List.mem_cons_self) _ (h1.own.2.2 _ (List.mem_append_right _ List.mem_cons_self))).2).trans hq1.pair, hq1.pr.keeps hK2 fun k hk hg => hq1.dis k hk hg, hR2, fun k hk h2 => by
    rcases hG2 k h2 with h' | h'
    ·exact hq1.dis k hk h'
    ·have := hq1.pr.lt k hk; omega⟩
   have h2 := h1.swap (q := ⟨p.pb, p.x, p.y, F', G', askS p.s b id, askS p.s b id⟩) hK2 (fun k hk => .inr hk) rfl hq2 (fun k hk => by
    rcases hk with hk | hk
    ·exact .inl (.inl hk)
    ·rcases hG2 k hk with h' | h'
     ·exact .inl (.inr h')
     ·exact .inr h')
   have hlow2 : Below w0.heap.size wd w2 := ⟨hK2.os, hK2.tape, hK2.output, hK2.size, fun k hk => hK2.block k (by have := hl.size; have := hK1.size; have := hbd.size; omega) fun hf => by have := h.base.2 p hpm k (.inr hf); omega⟩
   have hl2 : Below w0.heap.size w0 w2 := ((hl.trans hlow1).trans hlowd).trans hlow2
   refine ⟨rfl, ⟨⟨_, _, _, _, _, _, _, _, _, _, _, _, _, h2, fun q hq' => ?_, ⟨by simp at hlen ⊢; omega, by simp⟩, by omega, by omega, by omega, by omega⟩, hl2, good_low hG0 hl2⟩, hK2⟩
   rcases List.mem_append.1 hq' with hq' | hq'
   ·exact rs_more hrs q (List.mem_append_left _ hq')
   ·rcases List.mem_cons.1 hq' with rfl | hq'
    ·exact ⟨rfl, (askS_ok hok (by omega) hq).mono (Nat.le_refl _) (by omega)⟩
    ·exact rs_more hrs q (List.mem_append_right _ (List.mem_cons_of_mem _ hq'))
end
end Go.Proofs.YtefdokkadckbbaaGreatDoor
end
section
namespace Go.Proofs.YtefdokkadckbbaaGreatDoor
open Go.RowKit
set_option maxRecDepth 100000
set_option maxHeartbeats 4000000 in
theorem lstep3 (w0 W : World) (B m : Nat) (p : OpR) (hk : p.kind = 3) (hI : LawI w0 W B m) (hG0 : Good w0) (hm : m ≤ 1048576) (hs : List Int) (hn : p.hn = hs.length) (hv : NumSl W (.slice p.ha p.hn p.hc) hs) (hlow : NumLow w0.heap.size p.ha hs) (hN : hs.length ≤ 1048576) :
  Calls Tryz.prog 37 #[.pointer (some ⟨B, 0, none⟩), .agg #[.int .i64 p.kind, .int .i64 p.at_, .int .i64 p.x, .int .i64 p.m.id, .bool p.m.reply, .int .i64 p.m.code, .string p.m.name, .int .i64 p.m.ty, .slice p.a0 p.m.answer.length p.c0, .slice p.a1 p.m.servers.length p.c1, .slice p.a2 p.m.more.length p.c2, .string p.s, .slice p.ha p.hn p.hc, .int .i64 p.e1, .int .i64 p.e2, .int .i64 p.e3, .int .i64 p.e4, .slice p.la p.ln p.lc]] W fun e W' => e = .returned (.bool true) ∧ LawI w0 W' B (m + 1) := by
 rw [hk]
 clear hk
 obtain ⟨O, vl, ps, pm, as_, am, es, em, prs, P, A, E, nx, hS, hrs, ⟨hlen, hne⟩, hP, hA, hE, hnx⟩ := hI.ex
 have hl := hI.low
 obtain ⟨W1, hW1⟩ : ∃ W1, W.alloc (.cells #[.int .i64 3, .int .i64 p.at_, .int .i64 p.x, .int .i64 p.m.id, .bool p.m.reply, .int .i64 p.m.code, .string p.m.name, .int .i64 p.m.ty, .slice p.a0 p.m.answer.length p.c0, .slice p.a1 p.m.servers.length p.c1, .slice p.a2 p.m.more.length p.c2, .string p.s, .slice p.ha p.hn p.hc, .int .i64 p.e1, .int .i64 p.e2, .int .i64 p.e3, .int .i64 p.e4, .slice p.la p.ln p.lc] 33) = W1 := ⟨_, rfl⟩
 have hb1 : Below W.heap.size W W1 := by rw [← hW1]; exact (Below.refl _ _).alloc (Nat.le_refl _) _
 have hz1 : W1.heap.size = W.heap.size + 1 := by rw [← hW1]; simp
 have hO1 : W1.heap[W.heap.size]? = some (.cells #[.int .i64 3, .int .i64 p.at_, .int .i64 p.x, .int .i64 p.m.id, .bool p.m.reply, .int .i64 p.m.code, .string p.m.name, .int .i64 p.m.ty, .slice p.a0 p.m.answer.length p.c0, .slice p.a1 p.m.servers.length p.c1, .slice p.a2 p.m.more.length p.c2, .string p.s, .slice p.ha p.hn p.hc, .int .i64 p.e1, .int .i64 p.e2, .int .i64 p.e3, .int .i64 p.e4, .slice p.la p.ln p.lc] 33 (0, 0)) := by rw [← hW1]; exact World.alloc_heap_new W _
 have hS1 := hS.below hb1
 have hl1 : Below w0.heap.size w0 W1 := hl.trans (hb1.mono hl.size)
 have o0 : W1.cell? ⟨W.heap.size, 0, none⟩ = some (.int .i64 3) := by rw [cell_blk hO1]; rfl
 have o12 : W1.cell? ⟨W.heap.size, 12, none⟩ = some (.slice p.ha p.hn p.hc) := by rw [cell_blk hO1]; rfl
 have o13 : W1.cell? ⟨W.heap.size, 13, none⟩ = some (.int .i64 p.e1) := by rw [cell_blk hO1]; rfl
 have o14 : W1.cell? ⟨W.heap.size, 14, none⟩ = some (.int .i64 p.e2) := by rw [cell_blk hO1]; rfl
 have o15 : W1.cell? ⟨W.heap.size, 15, none⟩ = some (.int .i64 p.e3) := by rw [cell_blk hO1]; rfl
 have o16 : W1.cell? ⟨W.heap.size, 16, none⟩ = some (.int .i64 p.e4) := by rw [cell_blk hO1]; rfl
 have HC : Hid (Calls Tryz.prog 36 #[.pointer (some ⟨B, 0, none⟩), .agg #[.slice p.ha p.hn p.hc, .int .i64 p.e1, .int .i64 p.e2, .int .i64 p.e3, .int .i64 p.e4]] W1 fun e W' => e = .returned (.bool true) ∧ LawI w0 W' B (m + 1)) := by
  have hv1 := hv.below hb1
  rw [hn] at hv1 ⊢
  refine (lmade_any W1 w0.heap.size O B vl ps pm as_ am es em prs P A E nx p.ha p.hc hs p.e1 p.e2 p.e3 p.e4 hS1 (good_low hG0 hl1) hv1 (fun ad h1 h2 => Nat.lt_of_lt_of_le (hlow ad h1 h2) hl1.size) hN (by omega)).mono ?_
  rintro e W' ⟨rfl, O', vl', prs', h1, h2, h3⟩
  have hl2 := hl1.trans h2
  refine ⟨rfl, ⟨_, _, _, _, _, _, _, _, _, _, _, _, _, h1, ?_, ⟨?_, ?_⟩, by omega, by omega, by omega, by omega⟩, hl2, good_low hG0 hl2⟩
  ·rcases h3 with ⟨_, rfl⟩ | ⟨hok, q, rfl, hs1, hs2⟩
   ·exact rs_more hrs
   ·intro r hr
    rcases List.mem_append.1 hr with hr | hr
    ·exact rs_more hrs r hr
    ·simp only [List.mem_singleton] at hr
     subst hr
     rw [hs1, hs2]
     exact ⟨rfl, newRs_ok hok _ _⟩
  ·rcases h3 with ⟨_, rfl⟩ | ⟨hok, q, rfl, hs1, hs2⟩
   ·omega
   ·simp; omega
  ·rcases h3 with ⟨_, rfl⟩ | ⟨hok, q, rfl, hs1, hs2⟩
   ·exact hne
   ·simp
 clear hS hrs hlen hne hl hI hb1 hz1 hO1 hS1 hl1 hv hlow hn
 go_enter Tryz.func37, Tryz.ntmps37
 go_wp2_with (go_at_call 36; refine HC.out.mono ?_; rintro e w1 ⟨rfl, h1⟩)
 go_ret
 exact ⟨rfl, h1⟩
set_option maxHeartbeats 4000000 in
theorem lstep4 (w0 W : World) (B m : Nat) (p : OpR) (hk : p.kind = 4) (hI : LawI w0 W B m) (hG0 : Good w0) (hm : m ≤ 1048576) (hs1 : p.s.size ≤ 1048576) :
  Calls Tryz.prog 37 #[.pointer (some ⟨B, 0, none⟩), .agg #[.int .i64 p.kind, .int .i64 p.at_, .int .i64 p.x, .int .i64 p.m.id, .bool p.m.reply, .int .i64 p.m.code, .string p.m.name, .int .i64 p.m.ty, .slice p.a0 p.m.answer.length p.c0, .slice p.a1 p.m.servers.length p.c1, .slice p.a2 p.m.more.length p.c2, .string p.s, .slice p.ha p.hn p.hc, .int .i64 p.e1, .int .i64 p.e2, .int .i64 p.e3, .int .i64 p.e4, .slice p.la p.ln p.lc]] W fun e W' => e = .returned (.bool true) ∧ LawI w0 W' B (m + 1) := by
 rw [hk]
 clear hk
 obtain ⟨O, vl, ps, pm, as_, am, es, em, prs, P, A, E, nx, hS, hrs, ⟨hlen, hne⟩, hP, hA, hE, hnx⟩ := hI.ex
 have hl := hI.low
 obtain ⟨W1, hW1⟩ : ∃ W1, W.alloc (.cells #[.int .i64 4, .int .i64 p.at_, .int .i64 p.x, .int .i64 p.m.id, .bool p.m.reply, .int .i64 p.m.code, .string p.m.name, .int .i64 p.m.ty, .slice p.a0 p.m.answer.length p.c0, .slice p.a1 p.m.servers.length p.c1, .slice p.a2 p.m.more.length p.c2, .string p.s, .slice p.ha p.hn p.hc, .int .i64 p.e1, .int .i64 p.e2, .int .i64 p.e3, .int .i64 p.e4, .slice p.la p.ln p.lc] 33) = W1 := ⟨_, rfl⟩
 have hb1 : Below W.heap.size W W1 := by rw [← hW1]; exact (Below.refl _ _).alloc (Nat.le_refl _) _
 have hz1 : W1.heap.size = W.heap.size + 1 := by rw [← hW1]; simp
 have hO1 : W1.heap[W.heap.size]? = some (.cells #[.int .i64 4, .int .i64 p.at_, .int .i64 p.x, .int .i64 p.m.id, .bool p.m.reply, .int .i64 p.m.code, .string p.m.name, .int .i64 p.m.ty, .slice p.a0 p.m.answer.length p.c0, .slice p.a1 p.m.servers.length p.c1, .slice p.a2 p.m.more.length p.c2, .string p.s, .slice p.ha p.hn p.hc, .int .i64 p.e1, .int .i64 p.e2, .int .i64 p.e3, .int .i64 p.e4, .slice p.la p.ln p.lc] 33 (0, 0)) := by rw [← hW1]; exact World.alloc_heap_new W _
 have hS1 := hS.below hb1
 have hl1 : Below w0.heap.size w0 W1 := hl.trans (hb1.mono hl.size)
 have o0 : W1.cell? ⟨W.heap.size, 0, none⟩ = some (.int .i64 4) := by rw [cell_blk hO1]; rfl
 have o1 : W1.cell? ⟨W.heap.size, 1, none⟩ = some (.int .i64 p.at_) := by rw [cell_blk hO1]; rfl
 have o2 : W1.cell? ⟨W.heap.size, 2, none⟩ = some (.int .i64 p.x) := by rw [cell_blk hO1]; rfl
 have o11 : W1.cell? ⟨W.heap.size, 11, none⟩ = some (.string p.s) := by rw [cell_blk hO1]; rfl
 have hn0 : 0 < prs.length := List.length_pos_iff.2 hne
 obtain ⟨va, vc, rfl, hrow⟩ := rowl_at hS1.row
 have hi := pickN_lt (k := p.at_) hn0
 have HPK := hid (pick_def p.at_ prs.length)
 obtain ⟨i, hid0⟩ : ∃ i, pickN p.at_ prs.length = i := ⟨_, rfl⟩
 rw [hid0] at hi HPK
 obtain ⟨q, hq⟩ : ∃ q, prs[i]? = some q := ⟨prs[i], List.getElem?_eq_getElem hi⟩
 obtain ⟨gv, rfl, cv⟩ := hrow i (.pointer (some ⟨q.pb, 0, none⟩)) (by rw [List.getElem?_map, hq]; rfl)
 have hsplit : prs = prs.take i ++ q :: prs.drop (i + 1) := by
  obtain ⟨hi', rfl⟩ := List.getElem?_eq_some_iff.1 hq
  exact (List.take_append_drop i prs).symm.trans (by rw [List.drop_eq_getElem_cons hi'])
 obtain ⟨X, hX⟩ : ∃ X, prs.take i = X := ⟨_, rfl⟩
 obtain ⟨Y, hY⟩ : ∃ Y, prs.drop (i + 1) = Y := ⟨_, rfl⟩
 rw [hX, hY] at hsplit
 have cB0 : W1.cell? ⟨B, 0, none⟩ = some (.slice (some ⟨gv, 0, none⟩) prs.length vc) := by rw [cell_blk hS1.box]; rfl
 have hcap : prs.length ≤ vc := by
  rcases hS1.row.2 with ⟨h', _⟩ | ⟨_, _, _, h', _, _, h2, _⟩
  ·cases h'
  ·simp only [Value.slice.injEq] at h'; omega
 have hi' : (i : Int) < (prs.length : Int) := by omega
 have hnI : ¬ (prs.length : Int) = 0 := by omega
 have hnB : decide (prs.length = 0) = false := by simp; omega
 have HS1 : Hid (LawS W1 w0.heap.size O B (.slice (some ⟨gv, 0, none⟩) prs.length vc) ps pm as_ am es em (X ++ q :: Y) P A E nx) := by rw [← hsplit]; exact hS1
 have HRS : Hid (∀ p ∈ X ++ q :: Y, p.t = p.s ∧ RsOk p.s m (9 * m)) := by rw [← hsplit]; exact hrs
 have HLEN : Hid ((X ++ q :: Y).length ≤ m + 1) := by rw [← hsplit]; exact hlen
 have HFW : Hid (∀ r ∈ X ++ q :: Y, ∀ k, (r.F k ∨ r.G k) → k < W.heap.size) := by rw [← hsplit]; exact fun r hr k hk => (hS.ok r hr).lt k hk
 have HL1 := hid hl1
 have HZ1 := hid hz1
 have HO1 := hid hO1
 clear hS hrs hlen hne hl hI hb1 hz1 hO1 hS1 hl1 hrow hid0 hq hX hY hsplit hi hn0
 go_enter Tryz.func37, Tryz.ntmps37
 go_upto_region 10 with fail
 go_quiet (first | (go_at_call 77; refine Calls.quiet_of_same (HPK.out _)))
 obtain ⟨Z, hZ⟩ : ∃ Z, W1.drewN nq = Z := ⟨_, rfl⟩
 have hbZ : Below W1.heap.size W1 Z := by rw [← hZ]; exact below_drewN (Below.refl _ _) nq
 have hSZ := HS1.out.below hbZ
 have hlZ : Below w0.heap.size w0 Z := HL1.out.trans (hbZ.mono HL1.out.size)
 have hqm : q ∈ X ++ q :: Y := List.mem_append_right _ List.mem_cons_self
 have hpz := (hSZ.ok q hqm).pair
 have cx : Z.cell? ⟨q.pb, 0, none⟩ = some (.pointer (some ⟨q.x, 0, none⟩)) := by rw [cell_blk hpz]; rfl
 have cy : Z.cell? ⟨q.pb, 1, none⟩ = some (.pointer (some ⟨q.y, 0, none⟩)) := by rw [cell_blk hpz]; rfl
 have oZ : Z.heap[W.heap.size]? = some (.cells #[.int .i64 4, .int .i64 p.at_, .int .i64 p.x, .int .i64 p.m.id, .bool p.m.reply, .int .i64 p.m.code, .string p.m.name, .int .i64 p.m.ty, .slice p.a0 p.m.answer.length p.c0, .slice p.a1 p.m.servers.length p.c1, .slice p.a2 p.m.more.length p.c2, .string p.s, .slice p.ha p.hn p.hc, .int .i64 p.e1, .int .i64 p.e2, .int .i64 p.e3, .int .i64 p.e4, .slice p.la p.ln p.lc] 33 (0, 0)) := (hbZ.block _ (by have := HZ1.out; omega)).trans HO1.out
 have z0 : Z.cell? ⟨W.heap.size, 0, none⟩ = some (.int .i64 4) := by rw [cell_blk oZ]; rfl
 have z2 : Z.cell? ⟨W.heap.size, 2, none⟩ = some (.int .i64 p.x) := by rw [cell_blk oZ]; rfl
 have z11 : Z.cell? ⟨W.heap.size, 11, none⟩ = some (.string p.s) := by rw [cell_blk oZ]; rfl
 rw [hZ]
 obtain ⟨D, hD⟩ : ∃ D, Z.drew = D := ⟨_, rfl⟩
 have hbD : Below Z.heap.size Z D := by rw [← hD]; exact (Below.refl _ _).drew
 have hSD := hSZ.below hbD
 have hlD : Below w0.heap.size w0 D := hlZ.trans (hbD.mono hlZ.size)
 obtain ⟨r1, r2, hask⟩ := law_ask hSD hG0 hlD HRS.out HLEN.out ⟨hP, hA, hE, hnx⟩ hm p.s hs1
 have HASK := hid hask
 have hqO := hSD.own.2.2 q hqm
 have lpb := hSD.lt _ hqO
 have nF := (hSD.dis.1 q hqm _ hqO).1
 have nM : ¬ q.F W.heap.size := fun hf => by have := HFW.out q hqm _ (.inl hf); omega
 have oD := (hbD.block _ (Array.getElem?_eq_some_iff.1 oZ).1).trans oZ
 have lM : W.heap.size < D.heap.size := (Array.getElem?_eq_some_iff.1 oD).1
 have hpD := (hSD.ok q hqm).pair
 have HCL : Hid (∀ w1, Keeps q.F D w1 → w1.cell? ⟨q.pb, 0, none⟩ = some (.pointer (some ⟨q.x, 0, none⟩)) ∧ w1.cell? ⟨q.pb, 1, none⟩ = some (.pointer (some ⟨q.y, 0, none⟩)) ∧ w1.cell? ⟨W.heap.size, 11, none⟩ = some (.string p.s)) := by
  intro w1 hK
  have e1 : w1.heap[q.pb]? = D.heap[q.pb]? := hK.block _ lpb nF
  have e2 : w1.heap[W.heap.size]? = D.heap[W.heap.size]? := hK.block _ lM nM
  exact ⟨by rw [cell_blk (e1.trans hpD)]; rfl, by rw [cell_blk (e1.trans hpD)]; rfl, by rw [cell_blk (e2.trans oD)]; rfl⟩
 have nG := (hSD.dis.1 q hqm _ hqO).2
 have nMG : ¬ q.G W.heap.size := fun hf => by have := HFW.out q hqm _ (.inr hf); omega
 have HCG : Hid (∀ w1 d2, Keeps q.F D w1 → Below w1.heap.size w1 d2 → ∀ w2, Keeps q.G d2 w2 → w2.cell? ⟨q.pb, 1, none⟩ = some (.pointer (some ⟨q.y, 0, none⟩)) ∧ w2.cell? ⟨W.heap.size, 11, none⟩ = some (.string p.s)) := by
  intro w1 d2 hK hb2 w2 hK2
  have s1 := hK.size
  have s2 := hb2.size
  have e1 : w2.heap[q.pb]? = D.heap[q.pb]? := (hK2.block _ (by omega) nG).trans ((hb2.block _ (by omega)).trans (hK.block _ lpb nF))
  have e2 : w2.heap[W.heap.size]? = D.heap[W.heap.size]? := (hK2.block _ (by omega) nMG).trans ((hb2.block _ (by omega)).trans (hK.block _ lM nM))
  exact ⟨by rw [cell_blk (e1.trans hpD)]; rfl, by rw [cell_blk (e2.trans oD)]; rfl⟩
 have hcl0 := HCL.out D (Keeps.refl _ _)
 have hclZ : Z.drew.cell? ⟨q.pb, 0, none⟩ = some (.pointer (some ⟨q.x, 0, none⟩)) ∧ Z.drew.cell? ⟨q.pb, 1, none⟩ = some (.pointer (some ⟨q.y, 0, none⟩)) ∧ Z.drew.cell? ⟨W.heap.size, 11, none⟩ = some (.string p.s) := by rw [hD]; exact hcl0
 have HT : Hid (∀ w' : World, (w'.cell? ⟨q.pb, 0, none⟩ = some (.pointer (some ⟨q.x, 0, none⟩)) ∧ w'.cell? ⟨q.pb, 1, none⟩ = some (.pointer (some ⟨q.y, 0, none⟩)) ∧ w'.cell? ⟨W.heap.size, 11, none⟩ = some (.string p.s)) → w'.cell? ⟨q.pb, 0, none⟩ = some (.pointer (some ⟨q.x, 0, none⟩)) ∧ w'.cell? ⟨q.pb, 1, none⟩ = some (.pointer (some ⟨q.y, 0, none⟩)) ∧ w'.cell? ⟨W.heap.size, 11, none⟩ = some (.string p.s)) := fun _ h => h
 clear hbZ hSZ hlZ hpz oZ hZ cB0 cv o0 o1 o2 o11 hW1 hbD hSD hlD hask hqO lpb nF nM oD lM hpD nG nMG
 go_wp2
 refine wp_region_held_drew (S := fun w' => w'.cell? ⟨q.pb, 0, none⟩ = some (.pointer (some ⟨q.x, 0, none⟩)) ∧ w'.cell? ⟨q.pb, 1, none⟩ = some (.pointer (some ⟨q.y, 0, none⟩)) ∧ w'.cell? ⟨W.heap.size, 11, none⟩ = some (.string p.s)) (by kernel_rfl) hclZ (fun hS => ?_)
 rw [hD] at hS ⊢
 clear hclZ hcl0 hD
 refine tkS (i := 0) (v := .pointer (some ⟨q.pb, 0, none⟩)) rfl hS ?_
 refine tkS (i := 1) (v := .pointer (some ⟨q.pb, 0, none⟩)) rfl hS ?_
 refine tkS (i := 2) (v := .pointer (some ⟨q.pb, 0, none⟩)) rfl hS ?_
 refine tkY (i := 3) (v := .pointer (some ⟨q.x, 0, none⟩)) rfl (Or.inl ⟨by rfl, fun w' hw => by obtain ⟨sx, sy, sm⟩ := HT.out w' hw; go_simp⟩) hS ?_
 refine tkS (i := 4) (v := .pointer (some ⟨W.heap.size, 11, none⟩)) rfl hS ?_
 refine tkY (i := 5) (v := .string p.s) rfl (Or.inl ⟨by rfl, fun w' hw => by obtain ⟨sx, sy, sm⟩ := HT.out w' hw; go_simp⟩) hS ?_
 refine wpAnyH_ready (rs := [6]) (by kernel_rfl) (by simp) ?_
 refine AllReadyH.cons rfl (fun K hK => ?_) AllReadyH.nil
 go_simp
 refine HASK.out.mono ?_
 rintro e w1 ⟨rfl, hK1, cy1, HC2⟩
 have hcl := HCL.out w1 hK1
 refine hK.out _ _ hcl fun hS => ?_
 refine tkS (i := 7) (v := .tuple #[.int .i64 r1, .int .i64 r2]) rfl hS ?_
 refine tkS (i := 8) (v := .int .i64 r1) rfl hS ?_
 refine tkS (i := 9) (v := .int .i64 r2) rfl hS ?_
 refine tkS (i := 10) (v := .int .i64 r1) rfl hS ?_
 refine tkS (i := 11) (v := .int .i64 r2) rfl hS ?_
 refine wpAnyH_done (by kernel_rfl) ?_ _
 clear hS cx cy z0 z2 z11 HCL
 obtain ⟨D2, hD2⟩ : ∃ D2, w1.drew = D2 := ⟨_, rfl⟩
 obtain ⟨cy2, hc3⟩ := HC2.out D2 (by rw [← hD2]; exact (Below.refl _ _).drew)
 have HC3 := hid hc3
 have hcl2 : w1.drew.cell? ⟨q.pb, 1, none⟩ = some (.pointer (some ⟨q.y, 0, none⟩)) ∧ w1.drew.cell? ⟨W.heap.size, 11, none⟩ = some (.string p.s) := ⟨by rw [hD2]; exact cy2, hcl.2.2⟩
 have HCL2 := hid (HCG.out w1 D2 hK1 (by rw [← hD2]; exact (Below.refl _ _).drew))
 clear hc3 HC2 cy1 hK1 cy2 HT hcl HASK HCG
 go_wp2
 refine wp_region_held_drew (S := fun w' => w'.cell? ⟨q.pb, 1, none⟩ = some (.pointer (some ⟨q.y, 0, none⟩)) ∧ w'.cell? ⟨W.heap.size, 11, none⟩ = some (.string p.s)) (by kernel_rfl) hcl2 (fun hS => ?_)
 rw [hD2] at hS ⊢
 clear hD2 hcl2
 refine tkS (i := 0) (v := .pointer (some ⟨q.pb, 0, none⟩)) rfl hS ?_
 refine tkS (i := 1) (v := .pointer (some ⟨q.pb, 0, none⟩)) rfl hS ?_
 refine tkS (i := 2) (v := .pointer (some ⟨q.pb, 1, none⟩)) rfl hS ?_
 refine tkY (i := 3) (v := .pointer (some ⟨q.y, 0, none⟩)) rfl (Or.inl ⟨by rfl, fun w' hw => by have sy : w'.cell? ⟨q.pb, 1, none⟩ = some (.pointer (some ⟨q.y, 0, none⟩)) := hw.1; have sm : w'.cell? ⟨W.heap.size, 11, none⟩ = some (.string p.s) := hw.2; go_simp⟩) hS ?_
 refine tkS (i := 4) (v := .pointer (some ⟨W.heap.size, 11, none⟩)) rfl hS ?_
 refine tkY (i := 5) (v := .string p.s) rfl (Or.inl ⟨by rfl, fun w' hw => by have sy : w'.cell? ⟨q.pb, 1, none⟩ = some (.pointer (some ⟨q.y, 0, none⟩)) := hw.1; have sm : w'.cell? ⟨W.heap.size, 11, none⟩ = some (.string p.s) := hw.2; go_simp⟩) hS ?_
 refine wpAnyH_ready (rs := [6]) (by kernel_rfl) (by simp) ?_
 refine AllReadyH.cons rfl (fun K hK => ?_) AllReadyH.nil
 go_simp
 refine HC3.out.mono ?_
 rintro e w2 ⟨rfl, h1, hK2⟩
 have hcl := HCL2.out w2 hK2
 refine hK.out _ _ hcl fun hS => ?_
 refine tkS (i := 7) (v := .tuple #[.int .i64 r1, .int .i64 r2]) rfl hS ?_
 refine tkS (i := 8) (v := .int .i64 r1) rfl hS ?_
 refine tkS (i := 9) (v := .int .i64 r2) rfl hS ?_
 refine tkS (i := 10) (v := .int .i64 r1) rfl hS ?_
 refine tkS (i := 11) (v := .int .i64 r2) rfl hS ?_
 refine wpAnyH_done (by kernel_rfl) ?_ _
 clear hS hcl hK2
 go_wp2_with (first | (go_at_call_of 74 (Value.int .i64 r2); refine (num_any r2 _).mono ?_; rintro e w5 ⟨rfl, hw5⟩; have hw6 := hw5.symm; clear hw5; subst hw6))
 go_ret
 exact ⟨by simp, h1⟩
set_option maxHeartbeats 4000000 in
theorem lstep6 (w0 W : World) (B m : Nat) (p : OpR) (hk : p.kind = 6) (hI : LawI w0 W B m) (hG0 : Good w0) (hm : m ≤ 1048576) :
  Calls Tryz.prog 37 #[.pointer (some ⟨B, 0, none⟩), .agg #[.int .i64 p.kind, .int .i64 p.at_, .int .i64 p.x, .int .i64 p.m.id, .bool p.m.reply, .int .i64 p.m.code, .string p.m.name, .int .i64 p.m.ty, .slice p.a0 p.m.answer.length p.c0, .slice p.a1 p.m.servers.length p.c1, .slice p.a2 p.m.more.length p.c2, .string p.s, .slice p.ha p.hn p.hc, .int .i64 p.e1, .int .i64 p.e2, .int .i64 p.e3, .int .i64 p.e4, .slice p.la p.ln p.lc]] W fun e W' => e = .returned (.bool true) ∧ LawI w0 W' B (m + 1) := by
 rw [hk]
 clear hk
 obtain ⟨O, vl, ps, pm, as_, am, es, em, prs, P, A, E, nx, hS, hrs, ⟨hlen, hne⟩, hP, hA, hE, hnx⟩ := hI.ex
 have hl := hI.low
 obtain ⟨W1, hW1⟩ : ∃ W1, W.alloc (.cells #[.int .i64 6, .int .i64 p.at_, .int .i64 p.x, .int .i64 p.m.id, .bool p.m.reply, .int .i64 p.m.code, .string p.m.name, .int .i64 p.m.ty, .slice p.a0 p.m.answer.length p.c0, .slice p.a1 p.m.servers.length p.c1, .slice p.a2 p.m.more.length p.c2, .string p.s, .slice p.ha p.hn p.hc, .int .i64 p.e1, .int .i64 p.e2, .int .i64 p.e3, .int .i64 p.e4, .slice p.la p.ln p.lc] 33) = W1 := ⟨_, rfl⟩
 have hb1 : Below W.heap.size W W1 := by rw [← hW1]; exact (Below.refl _ _).alloc (Nat.le_refl _) _
 have hz1 : W1.heap.size = W.heap.size + 1 := by rw [← hW1]; simp
 have hO1 : W1.heap[W.heap.size]? = some (.cells #[.int .i64 6, .int .i64 p.at_, .int .i64 p.x, .int .i64 p.m.id, .bool p.m.reply, .int .i64 p.m.code, .string p.m.name, .int .i64 p.m.ty, .slice p.a0 p.m.answer.length p.c0, .slice p.a1 p.m.servers.length p.c1, .slice p.a2 p.m.more.length p.c2, .string p.s, .slice p.ha p.hn p.hc, .int .i64 p.e1, .int .i64 p.e2, .int .i64 p.e3, .int .i64 p.e4, .slice p.la p.ln p.lc] 33 (0, 0)) := by rw [← hW1]; exact World.alloc_heap_new W _
 have hS1 := hS.below hb1
 have hl1 : Below w0.heap.size w0 W1 := hl.trans (hb1.mono hl.size)
 have o0 : W1.cell? ⟨W.heap.size, 0, none⟩ = some (.int .i64 6) := by rw [cell_blk hO1]; rfl
 have o1 : W1.cell? ⟨W.heap.size, 1, none⟩ = some (.int .i64 p.at_) := by rw [cell_blk hO1]; rfl
 have o2 : W1.cell? ⟨W.heap.size, 2, none⟩ = some (.int .i64 p.x) := by rw [cell_blk hO1]; rfl
 have o11 : W1.cell? ⟨W.heap.size, 11, none⟩ = some (.string p.s) := by rw [cell_blk hO1]; rfl
 have hn0 : 0 < prs.length := List.length_pos_iff.2 hne
 obtain ⟨va, vc, rfl, hrow⟩ := rowl_at hS1.row
 have hi := pickN_lt (k := p.at_) hn0
 have HPK := hid (pick_def p.at_ prs.length)
 obtain ⟨i, hid0⟩ : ∃ i, pickN p.at_ prs.length = i := ⟨_, rfl⟩
 rw [hid0] at hi HPK
 obtain ⟨q, hq⟩ : ∃ q, prs[i]? = some q := ⟨prs[i], List.getElem?_eq_getElem hi⟩
 obtain ⟨gv, rfl, cv⟩ := hrow i (.pointer (some ⟨q.pb, 0, none⟩)) (by rw [List.getElem?_map, hq]; rfl)
 have hsplit : prs = prs.take i ++ q :: prs.drop (i + 1) := by
  obtain ⟨hi', rfl⟩ := List.getElem?_eq_some_iff.1 hq
  exact (List.take_append_drop i prs).symm.trans (by rw [List.drop_eq_getElem_cons hi'])
 obtain ⟨X, hX⟩ : ∃ X, prs.take i = X := ⟨_, rfl⟩
 obtain ⟨Y, hY⟩ : ∃ Y, prs.drop (i + 1) = Y := ⟨_, rfl⟩
 rw [hX, hY] at hsplit
 have cB0 : W1.cell? ⟨B, 0, none⟩ = some (.slice (some ⟨gv, 0, none⟩) prs.length vc) := by rw [cell_blk hS1.box]; rfl
 have hcap : prs.length ≤ vc := by
  rcases hS1.row.2 with ⟨h', _⟩ | ⟨_, _, _, h', _, _, h2, _⟩
  ·cases h'
  ·simp only [Value.slice.injEq] at h'; omega
 have hi' : (i : Int) < (prs.length : Int) := by omega
 have hnI : ¬ (prs.length : Int) = 0 := by omega
 have hnB : decide (prs.length = 0) = false := by simp; omega
 have HS1 : Hid (LawS W1 w0.heap.size O B (.slice (some ⟨gv, 0, none⟩) prs.length vc) ps pm as_ am es em (X ++ q :: Y) P A E nx) := by rw [← hsplit]; exact hS1
 have HRS : Hid (∀ p ∈ X ++ q :: Y, p.t = p.s ∧ RsOk p.s m (9 * m)) := by rw [← hsplit]; exact hrs
 have HLEN : Hid ((X ++ q :: Y).length ≤ m + 1) := by rw [← hsplit]; exact hlen
 have HFW : Hid (∀ r ∈ X ++ q :: Y, ∀ k, (r.F k ∨ r.G k) → k < W.heap.size) := by rw [← hsplit]; exact fun r hr k hk => (hS.ok r hr).lt k hk
 have HL1 := hid hl1
 have HZ1 := hid hz1
 have HO1 := hid hO1
 clear hS hrs hlen hne hl hI hb1 hz1 hO1 hS1 hl1 hrow hid0 hq hX hY hsplit hi hn0
 go_enter Tryz.func37, Tryz.ntmps37
 go_upto_region 10 with fail
 go_quiet (first | (go_at_call 77; refine Calls.quiet_of_same (HPK.out _)))
 obtain ⟨Z, hZ⟩ : ∃ Z, W1.drewN nq = Z := ⟨_, rfl⟩
 have hbZ : Below W1.heap.size W1 Z := by rw [← hZ]; exact below_drewN (Below.refl _ _) nq
 have hSZ := HS1.out.below hbZ
 have hlZ : Below w0.heap.size w0 Z := HL1.out.trans (hbZ.mono HL1.out.size)
 have hqm : q ∈ X ++ q :: Y := List.mem_append_right _ List.mem_cons_self
 have hpz := (hSZ.ok q hqm).pair
 have cx : Z.cell? ⟨q.pb, 0, none⟩ = some (.pointer (some ⟨q.x, 0, none⟩)) := by rw [cell_blk hpz]; rfl
 have cy : Z.cell? ⟨q.pb, 1, none⟩ = some (.pointer (some ⟨q.y, 0, none⟩)) := by rw [cell_blk hpz]; rfl
 have oZ : Z.heap[W.heap.size]? = some (.cells #[.int .i64 6, .int .i64 p.at_, .int .i64 p.x, .int .i64 p.m.id, .bool p.m.reply, .int .i64 p.m.code, .string p.m.name, .int .i64 p.m.ty, .slice p.a0 p.m.answer.length p.c0, .slice p.a1 p.m.servers.length p.c1, .slice p.a2 p.m.more.length p.c2, .string p.s, .slice p.ha p.hn p.hc, .int .i64 p.e1, .int .i64 p.e2, .int .i64 p.e3, .int .i64 p.e4, .slice p.la p.ln p.lc] 33 (0, 0)) := (hbZ.block _ (by have := HZ1.out; omega)).trans HO1.out
 have z0 : Z.cell? ⟨W.heap.size, 0, none⟩ = some (.int .i64 6) := by rw [cell_blk oZ]; rfl
 have z2 : Z.cell? ⟨W.heap.size, 2, none⟩ = some (.int .i64 p.x) := by rw [cell_blk oZ]; rfl
 have z11 : Z.cell? ⟨W.heap.size, 11, none⟩ = some (.string p.s) := by rw [cell_blk oZ]; rfl
 rw [hZ]
 have HC := hid (law_tick hSZ hG0 hlZ HRS.out HLEN.out ⟨hP, hA, hE, hnx⟩ hm)
 clear hbZ hSZ hlZ hpz oZ hZ cB0 cv o0 o1 o2 o11 hW1
 go_wp2_with (first
  | (go_at_call 23; refine HC.out.mono ?_; rintro e w1 ⟨rfl, cy1, HC2⟩)
  | (go_at_call 82; refine HC2.out.mono ?_; rintro e w2 ⟨rfl, h1⟩))
 go_ret
 exact ⟨rfl, h1⟩
set_option maxHeartbeats 4000000 in
theorem lstep7 (w0 W : World) (B m : Nat) (p : OpR) (hk : p.kind = 7) (hI : LawI w0 W B m) (hG0 : Good w0) (hm : m ≤ 1048576) :
  Calls Tryz.prog 37 #[.pointer (some ⟨B, 0, none⟩), .agg #[.int .i64 p.kind, .int .i64 p.at_, .int .i64 p.x, .int .i64 p.m.id, .bool p.m.reply, .int .i64 p.m.code, .string p.m.name, .int .i64 p.m.ty, .slice p.a0 p.m.answer.length p.c0, .slice p.a1 p.m.servers.length p.c1, .slice p.a2 p.m.more.length p.c2, .string p.s, .slice p.ha p.hn p.hc, .int .i64 p.e1, .int .i64 p.e2, .int .i64 p.e3, .int .i64 p.e4, .slice p.la p.ln p.lc]] W fun e W' => e = .returned (.bool true) ∧ LawI w0 W' B (m + 1) := by
 rw [hk]
 clear hk
 obtain ⟨O, vl, ps, pm, as_, am, es, em, prs, P, A, E, nx, hS, hrs, ⟨hlen, hne⟩, hP, hA, hE, hnx⟩ := hI.ex
 have hl := hI.low
 obtain ⟨W1, hW1⟩ : ∃ W1, W.alloc (.cells #[.int .i64 7, .int .i64 p.at_, .int .i64 p.x, .int .i64 p.m.id, .bool p.m.reply, .int .i64 p.m.code, .string p.m.name, .int .i64 p.m.ty, .slice p.a0 p.m.answer.length p.c0, .slice p.a1 p.m.servers.length p.c1, .slice p.a2 p.m.more.length p.c2, .string p.s, .slice p.ha p.hn p.hc, .int .i64 p.e1, .int .i64 p.e2, .int .i64 p.e3, .int .i64 p.e4, .slice p.la p.ln p.lc] 33) = W1 := ⟨_, rfl⟩
 have hb1 : Below W.heap.size W W1 := by rw [← hW1]; exact (Below.refl _ _).alloc (Nat.le_refl _) _
 have hz1 : W1.heap.size = W.heap.size + 1 := by rw [← hW1]; simp
 have hO1 : W1.heap[W.heap.size]? = some (.cells #[.int .i64 7, .int .i64 p.at_, .int .i64 p.x, .int .i64 p.m.id, .bool p.m.reply, .int .i64 p.m.code, .string p.m.name, .int .i64 p.m.ty, .slice p.a0 p.m.answer.length p.c0, .slice p.a1 p.m.servers.length p.c1, .slice p.a2 p.m.more.length p.c2, .string p.s, .slice p.ha p.hn p.hc, .int .i64 p.e1, .int .i64 p.e2, .int .i64 p.e3, .int .i64 p.e4, .slice p.la p.ln p.lc] 33 (0, 0)) := by rw [← hW1]; exact World.alloc_heap_new W _
 have hS1 := hS.below hb1
 have hl1 : Below w0.heap.size w0 W1 := hl.trans (hb1.mono hl.size)
 have o0 : W1.cell? ⟨W.heap.size, 0, none⟩ = some (.int .i64 7) := by rw [cell_blk hO1]; rfl
 have o1 : W1.cell? ⟨W.heap.size, 1, none⟩ = some (.int .i64 p.at_) := by rw [cell_blk hO1]; rfl
 have o2 : W1.cell? ⟨W.heap.size, 2, none⟩ = some (.int .i64 p.x) := by rw [cell_blk hO1]; rfl
 have o11 : W1.cell? ⟨W.heap.size, 11, none⟩ = some (.string p.s) := by rw [cell_blk hO1]; rfl
 have hn0 : 0 < prs.length := List.length_pos_iff.2 hne
 obtain ⟨va, vc, rfl, hrow⟩ := rowl_at hS1.row
 have hi := pickN_lt (k := p.at_) hn0
 have HPK := hid (pick_def p.at_ prs.length)
 obtain ⟨i, hid0⟩ : ∃ i, pickN p.at_ prs.length = i := ⟨_, rfl⟩
 rw [hid0] at hi HPK
 obtain ⟨q, hq⟩ : ∃ q, prs[i]? = some q := ⟨prs[i], List.getElem?_eq_getElem hi⟩
 obtain ⟨gv, rfl, cv⟩ := hrow i (.pointer (some ⟨q.pb, 0, none⟩)) (by rw [List.getElem?_map, hq]; rfl)
 have hsplit : prs = prs.take i ++ q :: prs.drop (i + 1) := by
  obtain ⟨hi', rfl⟩ := List.getElem?_eq_some_iff.1 hq
  exact (List.take_append_drop i prs).symm.trans (by rw [List.drop_eq_getElem_cons hi'])
 obtain ⟨X, hX⟩ : ∃ X, prs.take i = X := ⟨_, rfl⟩
 obtain ⟨Y, hY⟩ : ∃ Y, prs.drop (i + 1) = Y := ⟨_, rfl⟩
 rw [hX, hY] at hsplit
 have cB0 : W1.cell? ⟨B, 0, none⟩ = some (.slice (some ⟨gv, 0, none⟩) prs.length vc) := by rw [cell_blk hS1.box]; rfl
 have hcap : prs.length ≤ vc := by
  rcases hS1.row.2 with ⟨h', _⟩ | ⟨_, _, _, h', _, _, h2, _⟩
  ·cases h'
  ·simp only [Value.slice.injEq] at h'; omega
 have hi' : (i : Int) < (prs.length : Int) := by omega
 have hnI : ¬ (prs.length : Int) = 0 := by omega
 have hnB : decide (prs.length = 0) = false := by simp; omega
 have HS1 : Hid (LawS W1 w0.heap.size O B (.slice (some ⟨gv, 0, none⟩) prs.length vc) ps pm as_ am es em (X ++ q :: Y) P A E nx) := by rw [← hsplit]; exact hS1
 have HRS : Hid (∀ p ∈ X ++ q :: Y, p.t = p.s ∧ RsOk p.s m (9 * m)) := by rw [← hsplit]; exact hrs
 have HLEN : Hid ((X ++ q :: Y).length ≤ m + 1) := by rw [← hsplit]; exact hlen
 have HFW : Hid (∀ r ∈ X ++ q :: Y, ∀ k, (r.F k ∨ r.G k) → k < W.heap.size) := by rw [← hsplit]; exact fun r hr k hk => (hS.ok r hr).lt k hk
 have HL1 := hid hl1
 have HZ1 := hid hz1
 have HO1 := hid hO1
 clear hS hrs hlen hne hl hI hb1 hz1 hO1 hS1 hl1 hrow hid0 hq hX hY hsplit hi hn0
 go_enter Tryz.func37, Tryz.ntmps37
 go_upto_region 10 with fail
 go_quiet (first | (go_at_call 77; refine Calls.quiet_of_same (HPK.out _)))
 obtain ⟨Z, hZ⟩ : ∃ Z, W1.drewN nq = Z := ⟨_, rfl⟩
 have hbZ : Below W1.heap.size W1 Z := by rw [← hZ]; exact below_drewN (Below.refl _ _) nq
 have hSZ := HS1.out.below hbZ
 have hlZ : Below w0.heap.size w0 Z := HL1.out.trans (hbZ.mono HL1.out.size)
 have hqm : q ∈ X ++ q :: Y := List.mem_append_right _ List.mem_cons_self
 have hpz := (hSZ.ok q hqm).pair
 have cx : Z.cell? ⟨q.pb, 0, none⟩ = some (.pointer (some ⟨q.x, 0, none⟩)) := by rw [cell_blk hpz]; rfl
 have cy : Z.cell? ⟨q.pb, 1, none⟩ = some (.pointer (some ⟨q.y, 0, none⟩)) := by rw [cell_blk hpz]; rfl
 have oZ : Z.heap[W.heap.size]? = some (.cells #[.int .i64 7, .int .i64 p.at_, .int .i64 p.x, .int .i64 p.m.id, .bool p.m.reply, .int .i64 p.m.code, .string p.m.name, .int .i64 p.m.ty, .slice p.a0 p.m.answer.length p.c0, .slice p.a1 p.m.servers.length p.c1, .slice p.a2 p.m.more.length p.c2, .string p.s, .slice p.ha p.hn p.hc, .int .i64 p.e1, .int .i64 p.e2, .int .i64 p.e3, .int .i64 p.e4, .slice p.la p.ln p.lc] 33 (0, 0)) := (hbZ.block _ (by have := HZ1.out; omega)).trans HO1.out
 have z0 : Z.cell? ⟨W.heap.size, 0, none⟩ = some (.int .i64 7) := by rw [cell_blk oZ]; rfl
 have z2 : Z.cell? ⟨W.heap.size, 2, none⟩ = some (.int .i64 p.x) := by rw [cell_blk oZ]; rfl
 have z11 : Z.cell? ⟨W.heap.size, 11, none⟩ = some (.string p.s) := by rw [cell_blk oZ]; rfl
 rw [hZ]
 have HC : Hid (Calls Tryz.prog 38 #[.pointer (some ⟨B, 0, none⟩), .pointer (some ⟨q.pb, 0, none⟩), .int .i64 p.x] Z fun e W' => e = .returned (.bool true) ∧ LawI w0 W' B (m + 1)) := by
  obtain ⟨heq, hok⟩ := HRS.out q hqm
  refine (lsent_any Z w0.heap.size O B _ ps pm as_ am es em X Y q P A E nx m (9 * m) p.x hSZ hok heq (by omega) (by omega) (by omega)).mono ?_
  rintro e W' ⟨rfl, O', ps', pm', P', h1, h2, h3⟩
  have hl2 := hlZ.trans h3
  exact ⟨rfl, ⟨_, _, _, _, _, _, _, _, _, _, _, _, _, h1, rs_more HRS.out, ⟨by have := HLEN.out; omega, by simp⟩, by omega, by omega, by omega, by omega⟩, hl2, good_low hG0 hl2⟩
 clear hbZ hSZ hlZ hpz oZ hZ cB0 cv o0 o1 o2 o11 hW1
 go_wp2_with (go_at_call 38; refine HC.out.mono ?_; rintro e w1 ⟨rfl, h1⟩)
 go_ret
 exact ⟨rfl, h1⟩
set_option maxHeartbeats 4000000 in
theorem lstep8 (w0 W : World) (B m : Nat) (p : OpR) (hk : p.kind = 8) (hI : LawI w0 W B m) (hG0 : Good w0) (hm : m ≤ 1048576) :
  Calls Tryz.prog 37 #[.pointer (some ⟨B, 0, none⟩), .agg #[.int .i64 p.kind, .int .i64 p.at_, .int .i64 p.x, .int .i64 p.m.id, .bool p.m.reply, .int .i64 p.m.code, .string p.m.name, .int .i64 p.m.ty, .slice p.a0 p.m.answer.length p.c0, .slice p.a1 p.m.servers.length p.c1, .slice p.a2 p.m.more.length p.c2, .string p.s, .slice p.ha p.hn p.hc, .int .i64 p.e1, .int .i64 p.e2, .int .i64 p.e3, .int .i64 p.e4, .slice p.la p.ln p.lc]] W fun e W' => e = .returned (.bool true) ∧ LawI w0 W' B (m + 1) := by
 rw [hk]
 clear hk
 obtain ⟨O, vl, ps, pm, as_, am, es, em, prs, P, A, E, nx, hS, hrs, ⟨hlen, hne⟩, hP, hA, hE, hnx⟩ := hI.ex
 have hl := hI.low
 obtain ⟨W1, hW1⟩ : ∃ W1, W.alloc (.cells #[.int .i64 8, .int .i64 p.at_, .int .i64 p.x, .int .i64 p.m.id, .bool p.m.reply, .int .i64 p.m.code, .string p.m.name, .int .i64 p.m.ty, .slice p.a0 p.m.answer.length p.c0, .slice p.a1 p.m.servers.length p.c1, .slice p.a2 p.m.more.length p.c2, .string p.s, .slice p.ha p.hn p.hc, .int .i64 p.e1, .int .i64 p.e2, .int .i64 p.e3, .int .i64 p.e4, .slice p.la p.ln p.lc] 33) = W1 := ⟨_, rfl⟩
 have hb1 : Below W.heap.size W W1 := by rw [← hW1]; exact (Below.refl _ _).alloc (Nat.le_refl _) _
 have hz1 : W1.heap.size = W.heap.size + 1 := by rw [← hW1]; simp
 have hO1 : W1.heap[W.heap.size]? = some (.cells #[.int .i64 8, .int .i64 p.at_, .int .i64 p.x, .int .i64 p.m.id, .bool p.m.reply, .int .i64 p.m.code, .string p.m.name, .int .i64 p.m.ty, .slice p.a0 p.m.answer.length p.c0, .slice p.a1 p.m.servers.length p.c1, .slice p.a2 p.m.more.length p.c2, .string p.s, .slice p.ha p.hn p.hc, .int .i64 p.e1, .int .i64 p.e2, .int .i64 p.e3, .int .i64 p.e4, .slice p.la p.ln p.lc] 33 (0, 0)) := by rw [← hW1]; exact World.alloc_heap_new W _
 have hS1 := hS.below hb1
 have hl1 : Below w0.heap.size w0 W1 := hl.trans (hb1.mono hl.size)
 have o0 : W1.cell? ⟨W.heap.size, 0, none⟩ = some (.int .i64 8) := by rw [cell_blk hO1]; rfl
 have o1 : W1.cell? ⟨W.heap.size, 1, none⟩ = some (.int .i64 p.at_) := by rw [cell_blk hO1]; rfl
 have o2 : W1.cell? ⟨W.heap.size, 2, none⟩ = some (.int .i64 p.x) := by rw [cell_blk hO1]; rfl
 have o11 : W1.cell? ⟨W.heap.size, 11, none⟩ = some (.string p.s) := by rw [cell_blk hO1]; rfl
 have hn0 : 0 < prs.length := List.length_pos_iff.2 hne
 obtain ⟨va, vc, rfl, hrow⟩ := rowl_at hS1.row
 have hi := pickN_lt (k := p.at_) hn0
 have HPK := hid (pick_def p.at_ prs.length)
 obtain ⟨i, hid0⟩ : ∃ i, pickN p.at_ prs.length = i := ⟨_, rfl⟩
 rw [hid0] at hi HPK
 obtain ⟨q, hq⟩ : ∃ q, prs[i]? = some q := ⟨prs[i], List.getElem?_eq_getElem hi⟩
 obtain ⟨gv, rfl, cv⟩ := hrow i (.pointer (some ⟨q.pb, 0, none⟩)) (by rw [List.getElem?_map, hq]; rfl)
 have hsplit : prs = prs.take i ++ q :: prs.drop (i + 1) := by
  obtain ⟨hi', rfl⟩ := List.getElem?_eq_some_iff.1 hq
  exact (List.take_append_drop i prs).symm.trans (by rw [List.drop_eq_getElem_cons hi'])
 obtain ⟨X, hX⟩ : ∃ X, prs.take i = X := ⟨_, rfl⟩
 obtain ⟨Y, hY⟩ : ∃ Y, prs.drop (i + 1) = Y := ⟨_, rfl⟩
 rw [hX, hY] at hsplit
 have cB0 : W1.cell? ⟨B, 0, none⟩ = some (.slice (some ⟨gv, 0, none⟩) prs.length vc) := by rw [cell_blk hS1.box]; rfl
 have hcap : prs.length ≤ vc := by
  rcases hS1.row.2 with ⟨h', _⟩ | ⟨_, _, _, h', _, _, h2, _⟩
  ·cases h'
  ·simp only [Value.slice.injEq] at h'; omega
 have hi' : (i : Int) < (prs.length : Int) := by omega
 have hnI : ¬ (prs.length : Int) = 0 := by omega
 have hnB : decide (prs.length = 0) = false := by simp; omega
 have HS1 : Hid (LawS W1 w0.heap.size O B (.slice (some ⟨gv, 0, none⟩) prs.length vc) ps pm as_ am es em (X ++ q :: Y) P A E nx) := by rw [← hsplit]; exact hS1
 have HRS : Hid (∀ p ∈ X ++ q :: Y, p.t = p.s ∧ RsOk p.s m (9 * m)) := by rw [← hsplit]; exact hrs
 have HLEN : Hid ((X ++ q :: Y).length ≤ m + 1) := by rw [← hsplit]; exact hlen
 have HFW : Hid (∀ r ∈ X ++ q :: Y, ∀ k, (r.F k ∨ r.G k) → k < W.heap.size) := by rw [← hsplit]; exact fun r hr k hk => (hS.ok r hr).lt k hk
 have HL1 := hid hl1
 have HZ1 := hid hz1
 have HO1 := hid hO1
 clear hS hrs hlen hne hl hI hb1 hz1 hO1 hS1 hl1 hrow hid0 hq hX hY hsplit hi hn0
 go_enter Tryz.func37, Tryz.ntmps37
 go_upto_region 10 with fail
 go_quiet (first | (go_at_call 77; refine Calls.quiet_of_same (HPK.out _)))
 obtain ⟨Z, hZ⟩ : ∃ Z, W1.drewN nq = Z := ⟨_, rfl⟩
 have hbZ : Below W1.heap.size W1 Z := by rw [← hZ]; exact below_drewN (Below.refl _ _) nq
 have hSZ := HS1.out.below hbZ
 have hlZ : Below w0.heap.size w0 Z := HL1.out.trans (hbZ.mono HL1.out.size)
 have hqm : q ∈ X ++ q :: Y := List.mem_append_right _ List.mem_cons_self
 have hpz := (hSZ.ok q hqm).pair
 have cx : Z.cell? ⟨q.pb, 0, none⟩ = some (.pointer (some ⟨q.x, 0, none⟩)) := by rw [cell_blk hpz]; rfl
 have cy : Z.cell? ⟨q.pb, 1, none⟩ = some (.pointer (some ⟨q.y, 0, none⟩)) := by rw [cell_blk hpz]; rfl
 have oZ : Z.heap[W.heap.size]? = some (.cells #[.int .i64 8, .int .i64 p.at_, .int .i64 p.x, .int .i64 p.m.id, .bool p.m.reply, .int .i64 p.m.code, .string p.m.name, .int .i64 p.m.ty, .slice p.a0 p.m.answer.length p.c0, .slice p.a1 p.m.servers.length p.c1, .slice p.a2 p.m.more.length p.c2, .string p.s, .slice p.ha p.hn p.hc, .int .i64 p.e1, .int .i64 p.e2, .int .i64 p.e3, .int .i64 p.e4, .slice p.la p.ln p.lc] 33 (0, 0)) := (hbZ.block _ (by have := HZ1.out; omega)).trans HO1.out
 have z0 : Z.cell? ⟨W.heap.size, 0, none⟩ = some (.int .i64 8) := by rw [cell_blk oZ]; rfl
 have z2 : Z.cell? ⟨W.heap.size, 2, none⟩ = some (.int .i64 p.x) := by rw [cell_blk oZ]; rfl
 have z11 : Z.cell? ⟨W.heap.size, 11, none⟩ = some (.string p.s) := by rw [cell_blk oZ]; rfl
 rw [hZ]
 have HC : Hid (Calls Tryz.prog 39 #[.pointer (some ⟨B, 0, none⟩), .pointer (some ⟨q.pb, 0, none⟩), .int .i64 p.x] Z fun e W' => e = .returned (.bool true) ∧ LawI w0 W' B (m + 1)) := by
  obtain ⟨heq, hok⟩ := HRS.out q hqm
  refine (lreps_any Z w0.heap.size O B _ ps pm as_ am es em X Y q P A E nx m (9 * m) p.x hSZ hok heq (by omega) (by omega) (by omega)).mono ?_
  rintro e W' ⟨rfl, O', as', am', A', h1, h2, h3⟩
  have hl2 := hlZ.trans h3
  exact ⟨rfl, ⟨_, _, _, _, _, _, _, _, _, _, _, _, _, h1, rs_more HRS.out, ⟨by have := HLEN.out; omega, by simp⟩, by omega, by omega, by omega, by omega⟩, hl2, good_low hG0 hl2⟩
 clear hbZ hSZ hlZ hpz oZ hZ cB0 cv o0 o1 o2 o11 hW1
 go_wp2_with (go_at_call 39; refine HC.out.mono ?_; rintro e w1 ⟨rfl, h1⟩)
 go_ret
 exact ⟨rfl, h1⟩
set_option maxHeartbeats 4000000 in
theorem lstep9 (w0 W : World) (B m : Nat) (p : OpR) (hk : p.kind = 9) (hI : LawI w0 W B m) (hG0 : Good w0) (hm : m ≤ 1048576) :
  Calls Tryz.prog 37 #[.pointer (some ⟨B, 0, none⟩), .agg #[.int .i64 p.kind, .int .i64 p.at_, .int .i64 p.x, .int .i64 p.m.id, .bool p.m.reply, .int .i64 p.m.code, .string p.m.name, .int .i64 p.m.ty, .slice p.a0 p.m.answer.length p.c0, .slice p.a1 p.m.servers.length p.c1, .slice p.a2 p.m.more.length p.c2, .string p.s, .slice p.ha p.hn p.hc, .int .i64 p.e1, .int .i64 p.e2, .int .i64 p.e3, .int .i64 p.e4, .slice p.la p.ln p.lc]] W fun e W' => e = .returned (.bool true) ∧ LawI w0 W' B (m + 1) := by
 rw [hk]
 clear hk
 obtain ⟨O, vl, ps, pm, as_, am, es, em, prs, P, A, E, nx, hS, hrs, ⟨hlen, hne⟩, hP, hA, hE, hnx⟩ := hI.ex
 have hl := hI.low
 obtain ⟨W1, hW1⟩ : ∃ W1, W.alloc (.cells #[.int .i64 9, .int .i64 p.at_, .int .i64 p.x, .int .i64 p.m.id, .bool p.m.reply, .int .i64 p.m.code, .string p.m.name, .int .i64 p.m.ty, .slice p.a0 p.m.answer.length p.c0, .slice p.a1 p.m.servers.length p.c1, .slice p.a2 p.m.more.length p.c2, .string p.s, .slice p.ha p.hn p.hc, .int .i64 p.e1, .int .i64 p.e2, .int .i64 p.e3, .int .i64 p.e4, .slice p.la p.ln p.lc] 33) = W1 := ⟨_, rfl⟩
 have hb1 : Below W.heap.size W W1 := by rw [← hW1]; exact (Below.refl _ _).alloc (Nat.le_refl _) _
 have hz1 : W1.heap.size = W.heap.size + 1 := by rw [← hW1]; simp
 have hO1 : W1.heap[W.heap.size]? = some (.cells #[.int .i64 9, .int .i64 p.at_, .int .i64 p.x, .int .i64 p.m.id, .bool p.m.reply, .int .i64 p.m.code, .string p.m.name, .int .i64 p.m.ty, .slice p.a0 p.m.answer.length p.c0, .slice p.a1 p.m.servers.length p.c1, .slice p.a2 p.m.more.length p.c2, .string p.s, .slice p.ha p.hn p.hc, .int .i64 p.e1, .int .i64 p.e2, .int .i64 p.e3, .int .i64 p.e4, .slice p.la p.ln p.lc] 33 (0, 0)) := by rw [← hW1]; exact World.alloc_heap_new W _
 have hS1 := hS.below hb1
 have hl1 : Below w0.heap.size w0 W1 := hl.trans (hb1.mono hl.size)
 have o0 : W1.cell? ⟨W.heap.size, 0, none⟩ = some (.int .i64 9) := by rw [cell_blk hO1]; rfl
 have o1 : W1.cell? ⟨W.heap.size, 1, none⟩ = some (.int .i64 p.at_) := by rw [cell_blk hO1]; rfl
 have o2 : W1.cell? ⟨W.heap.size, 2, none⟩ = some (.int .i64 p.x) := by rw [cell_blk hO1]; rfl
 have o11 : W1.cell? ⟨W.heap.size, 11, none⟩ = some (.string p.s) := by rw [cell_blk hO1]; rfl
 have hn0 : 0 < prs.length := List.length_pos_iff.2 hne
 obtain ⟨va, vc, rfl, hrow⟩ := rowl_at hS1.row
 have hi := pickN_lt (k := p.at_) hn0
 have HPK := hid (pick_def p.at_ prs.length)
 obtain ⟨i, hid0⟩ : ∃ i, pickN p.at_ prs.length = i := ⟨_, rfl⟩
 rw [hid0] at hi HPK
 obtain ⟨q, hq⟩ : ∃ q, prs[i]? = some q := ⟨prs[i], List.getElem?_eq_getElem hi⟩
 obtain ⟨gv, rfl, cv⟩ := hrow i (.pointer (some ⟨q.pb, 0, none⟩)) (by rw [List.getElem?_map, hq]; rfl)
 have hsplit : prs = prs.take i ++ q :: prs.drop (i + 1) := by
  obtain ⟨hi', rfl⟩ := List.getElem?_eq_some_iff.1 hq
  exact (List.take_append_drop i prs).symm.trans (by rw [List.drop_eq_getElem_cons hi'])
 obtain ⟨X, hX⟩ : ∃ X, prs.take i = X := ⟨_, rfl⟩
 obtain ⟨Y, hY⟩ : ∃ Y, prs.drop (i + 1) = Y := ⟨_, rfl⟩
 rw [hX, hY] at hsplit
 have cB0 : W1.cell? ⟨B, 0, none⟩ = some (.slice (some ⟨gv, 0, none⟩) prs.length vc) := by rw [cell_blk hS1.box]; rfl
 have hcap : prs.length ≤ vc := by
  rcases hS1.row.2 with ⟨h', _⟩ | ⟨_, _, _, h', _, _, h2, _⟩
  ·cases h'
  ·simp only [Value.slice.injEq] at h'; omega
 have hi' : (i : Int) < (prs.length : Int) := by omega
 have hnI : ¬ (prs.length : Int) = 0 := by omega
 have hnB : decide (prs.length = 0) = false := by simp; omega
 have HS1 : Hid (LawS W1 w0.heap.size O B (.slice (some ⟨gv, 0, none⟩) prs.length vc) ps pm as_ am es em (X ++ q :: Y) P A E nx) := by rw [← hsplit]; exact hS1
 have HRS : Hid (∀ p ∈ X ++ q :: Y, p.t = p.s ∧ RsOk p.s m (9 * m)) := by rw [← hsplit]; exact hrs
 have HLEN : Hid ((X ++ q :: Y).length ≤ m + 1) := by rw [← hsplit]; exact hlen
 have HFW : Hid (∀ r ∈ X ++ q :: Y, ∀ k, (r.F k ∨ r.G k) → k < W.heap.size) := by rw [← hsplit]; exact fun r hr k hk => (hS.ok r hr).lt k hk
 have HL1 := hid hl1
 have HZ1 := hid hz1
 have HO1 := hid hO1
 clear hS hrs hlen hne hl hI hb1 hz1 hO1 hS1 hl1 hrow hid0 hq hX hY hsplit hi hn0
 go_enter Tryz.func37, Tryz.ntmps37
 go_upto_region 10 with fail
 go_quiet (first | (go_at_call 77; refine Calls.quiet_of_same (HPK.out _)))
 obtain ⟨Z, hZ⟩ : ∃ Z, W1.drewN nq = Z := ⟨_, rfl⟩
 have hbZ : Below W1.heap.size W1 Z := by rw [← hZ]; exact below_drewN (Below.refl _ _) nq
 have hSZ := HS1.out.below hbZ
 have hlZ : Below w0.heap.size w0 Z := HL1.out.trans (hbZ.mono HL1.out.size)
 have hqm : q ∈ X ++ q :: Y := List.mem_append_right _ List.mem_cons_self
 have hpz := (hSZ.ok q hqm).pair
 have cx : Z.cell? ⟨q.pb, 0, none⟩ = some (.pointer (some ⟨q.x, 0, none⟩)) := by rw [cell_blk hpz]; rfl
 have cy : Z.cell? ⟨q.pb, 1, none⟩ = some (.pointer (some ⟨q.y, 0, none⟩)) := by rw [cell_blk hpz]; rfl
 have oZ : Z.heap[W.heap.size]? = some (.cells #[.int .i64 9, .int .i64 p.at_, .int .i64 p.x, .int .i64 p.m.id, .bool p.m.reply, .int .i64 p.m.code, .string p.m.name, .int .i64 p.m.ty, .slice p.a0 p.m.answer.length p.c0, .slice p.a1 p.m.servers.length p.c1, .slice p.a2 p.m.more.length p.c2, .string p.s, .slice p.ha p.hn p.hc, .int .i64 p.e1, .int .i64 p.e2, .int .i64 p.e3, .int .i64 p.e4, .slice p.la p.ln p.lc] 33 (0, 0)) := (hbZ.block _ (by have := HZ1.out; omega)).trans HO1.out
 have z0 : Z.cell? ⟨W.heap.size, 0, none⟩ = some (.int .i64 9) := by rw [cell_blk oZ]; rfl
 have z2 : Z.cell? ⟨W.heap.size, 2, none⟩ = some (.int .i64 p.x) := by rw [cell_blk oZ]; rfl
 have z11 : Z.cell? ⟨W.heap.size, 11, none⟩ = some (.string p.s) := by rw [cell_blk oZ]; rfl
 rw [hZ]
 have HC : Hid (Calls Tryz.prog 40 #[.pointer (some ⟨B, 0, none⟩), .pointer (some ⟨q.pb, 0, none⟩)] Z fun e W' => e = .returned (.bool true) ∧ LawI w0 W' B (m + 1)) := by
  obtain ⟨heq, hok⟩ := HRS.out q hqm
  refine (lents_any Z w0.heap.size O B _ ps pm as_ am es em X Y q P A E nx hSZ (by omega) (by omega)).mono ?_
  rintro e W' ⟨rfl, O', es', em', E', h1, h2, h3⟩
  have hl2 := hlZ.trans h3
  exact ⟨rfl, ⟨_, _, _, _, _, _, _, _, _, _, _, _, _, h1, rs_more HRS.out, ⟨by have := HLEN.out; omega, by simp⟩, by omega, by omega, by omega, by omega⟩, hl2, good_low hG0 hl2⟩
 clear hbZ hSZ hlZ hpz oZ hZ cB0 cv o0 o1 o2 o11 hW1
 go_wp2_with (go_at_call 40; refine HC.out.mono ?_; rintro e w1 ⟨rfl, h1⟩)
 go_ret
 exact ⟨rfl, h1⟩
end Go.Proofs.YtefdokkadckbbaaGreatDoor
end
