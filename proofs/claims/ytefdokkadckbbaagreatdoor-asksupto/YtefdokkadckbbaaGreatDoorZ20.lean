/- I4 T2 T3 T4 T5 -/
import Derived.Test.YtefdokkadckbbaaGreatDoorZ19
import Derived.Test.YtefdokkadckbbaaGreatDoorZ14
import Derived.LoopN
section
namespace Go.Proofs.YtefdokkadckbbaaGreatDoor
open Go.RowKit
theorem low_nodot {c : UInt8} (h : low c = true) : ¬ c.toNat = 46 := by
 unfold low at h
 have := of_decide_eq_true h
 omega
theorem cutAcc_word : ∀ (x cur r : List UInt8), x.all low = true → cutAcc cur (x ++ r) = cutAcc (cur ++ x) r
 | [], cur, r, _ => by simp
 | c :: x, cur, r, h => by
  rw [List.all_cons, Bool.and_eq_true] at h
  rw [List.cons_append, cutAcc, if_neg (low_nodot h.1), cutAcc_word x (cur ++ [c]) r h.2]
  simp
theorem dotJoin_cons (x y : List UInt8) (r : List (List UInt8)) : dotJoin (x :: y :: r) = x ++ 46 :: dotJoin (y :: r) := by
 unfold dotJoin
 rw [Lib.join_cons, Lib.join_cons]
 simp [Lib.joinTail]
theorem lab_low {x : List UInt8} (h : labOk x = true) : x.all low = true := by unfold labOk at h; rw [Bool.and_eq_true] at h; exact h.2
theorem lab_ne {x : List UInt8} (h : labOk x = true) : x ≠ [] := by
 intro e; subst e; unfold labOk at h; simp at h
theorem cutAcc_join : ∀ (l : List (List UInt8)), l ≠ [] → l.all labOk = true → cutAcc [] (dotJoin l) = l
 | [], h, _ => absurd rfl h
 | [x], _, h => by
  have hx := lab_low (by simpa using h)
  rw [dotJoin_first]
  have := cutAcc_word x [] [] hx
  rw [List.append_nil] at this
  rw [this]; rfl
 | x :: y :: r, _, h => by
  rw [List.all_cons, Bool.and_eq_true] at h
  rw [dotJoin_cons, cutAcc_word x [] _ (lab_low h.1), cutAcc, if_pos (by decide), cutAcc_join (y :: r) (by simp) h.2]
  rfl
theorem labs_join {l : List (List UInt8)} (h : l.all labOk = true) : labs (dotJoin l) = l := by
 by_cases e : l = []
 ·subst e; rfl
 ·unfold labs
  have hne : dotJoin l ≠ [] := by
   cases l with
   | nil => exact absurd rfl e
   | cons x r =>
    rw [List.all_cons, Bool.and_eq_true] at h
    intro e2
    unfold dotJoin at e2
    rw [Lib.join_cons] at e2
    exact lab_ne h.1 (List.append_eq_nil_iff.1 e2).1
  rw [if_neg hne, cutAcc_join l e h]
theorem nameOk_join {l : List (List UInt8)} (h5 : l.length ≤ 5) (h : l.all labOk = true) : nameOk (tl (mk (dotJoin l))) = true := by
 rw [tl_mk']
 unfold nameOk
 rw [labs_join h, h, decide_eq_true h5]; rfl
theorem nameS_cut (t : List UInt8) (n : Nat) : nameS t n = (cutS t n).map fun x => (dotJoin x.1, x.2) := by
 unfold nameS cutS
 cases lblS t n n with
 | none => rfl
 | some x =>
  simp only [Option.bind_some]
  by_cases h : x.1.length ≤ 5
  ·rw [if_pos h, if_pos h]; rfl
  ·rw [if_neg h, if_neg h]; rfl
theorem ckS_no {r : Rec} {m : Nat} (h : saysOk r = false) : ckS r m = none := by unfold ckS recOk; rw [h]; simp
theorem ckS_is {r : Rec} {m : Nat} (hn : nameOk (tl r.name) = true) (hs : saysOk r = true) : ckS r m = if 1 ≤ r.ttl ∧ r.ttl ≤ 1000 then some (r, m) else none := by
 unfold ckS recOk
 rw [hn, hs]
 by_cases h : 1 ≤ r.ttl ∧ r.ttl ≤ 1000
 ·rw [decide_eq_true h, if_pos h]; rfl
 ·rw [decide_eq_false h, if_neg h]; rfl
theorem rr2_said {t nm : List UInt8} {ty ttl : Int} {n : Nat} (hnm : nameOk (tl (mk nm)) = true) (hty : 1 ≤ ty ∧ ty ≤ 4) : rr2 t nm ty ttl n = if 1 ≤ ttl ∧ ttl ≤ 1000 then saidS t nm ty ttl n else none := by
 unfold rr2 saidS
 by_cases h1 : ty = 1
 ·rw [if_pos h1, if_pos h1]
  cases hb : byteS t n with
  | none => simp
  | some b =>
   obtain ⟨b, m⟩ := b
   have hbb := byteS_bd hb
   rw [Option.bind_some, ckS_is hnm (by subst h1; unfold saysOk; rw [if_pos rfl, decide_eq_true (by simp only; omega)]; rfl)]
   rfl
 ·rw [if_neg h1, if_neg h1]
  by_cases h2 : ty = 2 ∨ ty = 3
  ·rw [if_pos h2, if_pos h2, nameS_cut]
   cases hg : cutS t n with
   | none => simp
   | some g =>
    obtain ⟨g, m⟩ := g
    obtain ⟨_, _, g5, gl⟩ := cutS_bd hg
    rw [Option.bind_some, ckS_is hnm (by unfold saysOk; rw [if_neg h1, if_pos h2, nameOk_join g5 gl]; rfl)]
    rfl
  ·rw [if_neg h2, if_neg h2, ckS_is hnm (by unfold saysOk; rw [if_neg h1, if_neg h2, if_pos (by simp only; omega)]; rfl)]
theorem rr2_none {t nm : List UInt8} {ty ttl : Int} {n : Nat} (hty : ¬ (1 ≤ ty ∧ ty ≤ 4)) : rr2 t nm ty ttl n = none := by
 unfold rr2
 rw [if_neg (by omega), if_neg (by omega), ckS_no (by unfold saysOk; rw [if_neg (by simp only; omega), if_neg (by simp only; omega), if_neg (by simp only; omega)])]
theorem rrS_recS (t : List UInt8) (n : Nat) : rrS t n = recS t n := by
 unfold rrS recS
 rw [nameS_cut]
 cases hc : cutS t n with
 | none => rfl
 | some a =>
  obtain ⟨l, m⟩ := a
  obtain ⟨_, _, h5, hl⟩ := cutS_bd hc
  simp only [Option.bind_some, Option.map_some]
  unfold numS
  cases hb : byteS t m with
  | none => rfl
  | some b =>
   obtain ⟨ty, m2⟩ := b
   simp only [Option.bind_some]
   by_cases hty : 1 ≤ ty ∧ ty ≤ 4
   ·rw [if_pos hty]
    simp only [Option.bind_some]
    congr 1
    funext x
    exact rr2_said (nameOk_join h5 hl) hty
   ·rw [if_neg hty]
    cases ht : twoS t m2 with
    | none => rfl
    | some x => simp only [Option.bind_some]; rw [rr2_none hty]; rfl
theorem record_ref' (s : ByteArray) (n : Nat) (w : World) (hs : s.size ≤ 1000) (hn : n ≤ s.size) : Calls Tryz.prog 162 #[.string s, .int .i64 (n : Int)] w (RRes w (recS (tl s) n)) := by
 rw [← rrS_recS]; exact record_ref s n w hs hn
theorem RRes.ok {w : World} {o : Option (Rec × Nat)} {f : FuncId} {args : Array Value} (h : Calls Tryz.prog f args w (RRes w o)) {r : Rec} {m : Nat} (ho : o = some (r, m)) :
  Calls Tryz.prog f args w fun e w' => e = .returned (.tuple #[recV r, .int .i64 (m : Int)]) ∧ Below w.heap.size w w' := by
 subst ho; exact h.mono fun e w' ⟨h1, h2⟩ => ⟨h2, h1⟩
theorem RRes.no {w : World} {o : Option (Rec × Nat)} {f : FuncId} {args : Array Value} (h : Calls Tryz.prog f args w (RRes w o)) (ho : o = none) :
  Calls Tryz.prog f args w fun e w' => e = .returned (.tuple #[recV ⟨⟨#[]⟩, 0, 0, 0, ⟨#[]⟩⟩, .int .i64 (-1)]) ∧ Below w.heap.size w w' := by
 subst ho; exact h.mono fun e w' ⟨h1, h2⟩ => ⟨h2, h1⟩
end Go.Proofs.YtefdokkadckbbaaGreatDoor
end
section
namespace Go.Proofs.YtefdokkadckbbaaGreatDoor
open Go.RowKit Go.Shelf
attribute [local go_sem] Oper.semAt_some
set_option maxRecDepth 100000
theorem cells8 {W : World} {b : Nat} {t : TypeId} {v0 v1 v2 v3 v4 v5 v6 v7 : Value} (h : W.heap[b]? = some (.cells #[v0, v1, v2, v3, v4, v5, v6, v7] t (0, 0))) :
  W.cell? ⟨b, 0, none⟩ = some v0 ∧ W.cell? ⟨b, 1, none⟩ = some v1 ∧ W.cell? ⟨b, 2, none⟩ = some v2 ∧ W.cell? ⟨b, 3, none⟩ = some v3 ∧ W.cell? ⟨b, 4, none⟩ = some v4 ∧ W.cell? ⟨b, 5, none⟩ = some v5 ∧ W.cell? ⟨b, 6, none⟩ = some v6 ∧ W.cell? ⟨b, 7, none⟩ = some v7 := by
 refine ⟨?_, ?_, ?_, ?_, ?_, ?_, ?_, ?_⟩ <;> (rw [cell_blk h]; rfl)
abbrev zoneV (nm : ByteArray) : Value := .agg #[.string nm, .slice none 0 0]
set_option maxHeartbeats 1000000 in
theorem zone_root (h : Value) (en tr pa mx now nid : Int) (mp : Nat) (w : World) :
  Calls Tryz.prog 251 #[wV h en tr pa mx mp now nid, .string ⟨#[]⟩] w fun e w' => e = .returned (.tuple #[zoneV ⟨#[]⟩, .bool true]) ∧ Below w.heap.size w w' := by
 go_enter Tryz.func251, Tryz.ntmps251
 go_wp2
 refine bodyPost_ret (v := .tuple #[zoneV ⟨#[]⟩, .bool true]) (by simp [results, Tryz.results251, go_sem]) rfl ⟨rfl, ?_⟩
 exact ((Below.refl _ _).alloc (Nat.le_refl _) _).alloc (by simp) _
set_option maxHeartbeats 1000000 in
theorem zone_none (h : Value) (en tr pa mx now nid : Int) (mp : Nat) (nm : ByteArray) (w : World) (hM : Mem0 w mp) (hn : nm.size ≤ maxLen) (h0 : nm.toList.isEmpty = false) :
  Calls Tryz.prog 251 #[wV h en tr pa mx mp now nid, .string nm] w fun e w' => e = .returned (.tuple #[zoneV nm, .bool false]) ∧ Below w.heap.size w w' := by
 have hb1 : Below w.heap.size w ((w.alloc (.cells #[h, .int .i64 en, .int .i64 tr, .int .i64 pa, .int .i64 mx, .pointer (some ⟨mp, 0, none⟩), .int .i64 now, .int .i64 nid] 122)).alloc (.cells #[.string ⟨#[]⟩, .slice none 0 0] 295)) := ((Below.refl _ _).alloc (Nat.le_refl _) _).alloc (by simp) _
 have hM1 := hM.below hb1
 go_enter Tryz.func251, Tryz.ntmps251
 go_wp2_with (go_at_call 255; refine (records_none h en tr pa mx now nid 2 mp nm _ hM1 hn (by decide)).mono ?_; rintro e w1 ⟨rfl, hb2⟩; obtain ⟨hc, hf⟩ := bcell hb2; have hz1 : w.heap.size + 1 < w1.heap.size := (by have := hb2.size; simp at this; omega); have hne1 : w.heap.size + 1 ≠ w1.heap.size := Nat.ne_of_lt hz1; have hne0 : w.heap.size ≠ w1.heap.size := (by omega))
 refine bodyPost_ret (v := .tuple #[zoneV nm, .bool false]) (by simp [results, Tryz.results251, go_sem, hc]) rfl ⟨rfl, ?_⟩
 have hB := hb1.trans (hb2.mono hb1.size)
 exact (hB.set (Nat.le_succ _) 0 _).set (Nat.le_succ _) 1 _
theorem isEmpty_tl {x : ByteArray} (h : tl x ≠ []) : x.toList.isEmpty = false := by
 rw [empty_iff]
 cases h' : tl x with
 | nil => exact absurd h' h
 | cons a b => rfl
theorem aboves_last : ∀ (L : List (List UInt8)), L ≠ [] → (∀ l ∈ L, l ≠ [] ∧ l.length ≤ 6) → ∃ vs, aboves L = vs ++ [⟨#[]⟩] ∧ ∀ x ∈ vs, x.toList.isEmpty = false ∧ x.size ≤ 7 * L.length
 | [], h, _ => absurd rfl h
 | [a], _, _ => ⟨[], rfl, by simp⟩
 | a :: b :: r, _, h => by
  obtain ⟨vs, h1, h2⟩ := aboves_last (b :: r) (by simp) (fun l hl => h l (by simp at hl ⊢; exact .inr hl))
  refine ⟨mk (dotJoin (b :: r)) :: vs, by rw [aboves, h1]; rfl, fun x hx => ?_⟩
  rcases List.mem_cons.1 hx with rfl | hx
  ·have hb := h b (by simp)
   refine ⟨isEmpty_tl ?_, ?_⟩
   ·rw [tl_mk']
    cases r with
    | nil => rw [dotJoin_first]; exact hb.1
    | cons c r => rw [dotJoin_cons]; simp
   ·rw [← tl_length, tl_mk']
    have := dotJoin_le (b :: r) (fun l hl => (h l (by simp at hl ⊢; exact .inr hl)).2)
    simp only [List.length_cons] at this ⊢
    omega
  ·obtain ⟨h3, h4⟩ := h2 x hx
   exact ⟨h3, by simp only [List.length_cons] at h4 ⊢; omega⟩
theorem upward_last (s : ByteArray) (hs : nameOk (tl s) = true) : ∃ us : List ByteArray, s :: aboves (labs (tl s)) = us ++ [⟨#[]⟩] ∧ ∀ x ∈ us, x.toList.isEmpty = false ∧ x.size ≤ 1048576 := by
 have h5 := nameOk_labs hs
 have hsz := nameOk_size _ hs
 by_cases h0 : tl s = []
 ·have : s = ⟨#[]⟩ := tl_inj (by rw [h0]; rfl)
  exact ⟨[], by rw [h0, this]; rfl, by simp⟩
 ·have hL : labs (tl s) ≠ [] := by
   unfold labs
   rw [if_neg h0]
   exact cutAcc_ne _ _
  have hall : ∀ l ∈ labs (tl s), l ≠ [] ∧ l.length ≤ 6 := by
   unfold nameOk labOk at hs
   simp at hs
   intro l hl
   have := hs.2 l hl
   exact ⟨by rintro rfl; simp at this, this.1.2⟩
  obtain ⟨vs, h1, h2⟩ := aboves_last _ hL hall
  refine ⟨s :: vs, by rw [h1]; rfl, fun x hx => ?_⟩
  rcases List.mem_cons.1 hx with rfl | hx
  ·exact ⟨isEmpty_tl h0, by rw [tl_length] at hsz; omega⟩
  ·exact ⟨(h2 x hx).1, by have := (h2 x hx).2; omega⟩
set_option maxHeartbeats 400000 in
theorem zones_any (wv : Array Value) (s : ByteArray) (w : World) (hwv : wv.size = 8) :
  Calls Tryz.prog 184 #[.agg wv, .string s] w fun e w' => e = .returned (.func (.func 249) #[] #[.pointer (some ⟨w.heap.size + 1, 0, none⟩), .pointer (some ⟨w.heap.size, 0, none⟩)]) ∧ w' = (w.alloc (.cells wv 122)).alloc (.cells #[.string s] 9) := by
 have hmf : ∀ (fn : Fn) (first cap : Array Value) (w : World), (Instr.makeFunc fn first cap).run Tryz.prog w = .ok (.func fn first cap) w := fun _ _ _ _ => rfl
 match wv, hwv with
 | ⟨[v0, v1, v2, v3, v4, v5, v6, v7]⟩, _ =>
 go_enter Tryz.func184, Tryz.ntmps184
 go_wp2
 go_ret
 exact ⟨rfl, rfl⟩
set_option maxHeartbeats 2000000 in
theorem zones_iter (h : Value) (en tr pa mx now nid : Int) (mp : Nat) (s : ByteArray) (w : World) (Bs Bw : Nat) (hs : nameOk (tl s) = true) (hBs : Bs < w.heap.size) (hBw : Bw < w.heap.size) (hcs : w.cell? ⟨Bs, 0, none⟩ = some (.string s))
  (hcw : w.heap[Bw]? = some (.cells #[h, .int .i64 en, .int .i64 tr, .int .i64 pa, .int .i64 mx, .pointer (some ⟨mp, 0, none⟩), .int .i64 now, .int .i64 nid] 122 (0, 0))) (hM : Mem0 w mp) (hG : Good w) :
  Iter Tryz.prog 249 #[] #[.pointer (some ⟨Bs, 0, none⟩), .pointer (some ⟨Bw, 0, none⟩)] (fun _ : Unit => #[zoneV ⟨#[]⟩]) [()] w := by
 intro l J Jx W hW hJx hY h0 n
 obtain ⟨us, hus, hne⟩ := upward_last s hs
 have hcW : W.cell? ⟨Bs, 0, none⟩ = some (.string s) := (hW.cell (p := ⟨Bs, 0, none⟩) hBs).trans hcs
 have hBW : Bs < W.heap.size := Nat.lt_of_lt_of_le hBs hW.size
 have hGW := hG.below hW
 obtain ⟨W1, hW1⟩ : ∃ W1, W.alloc (.cells #[.func (.yield l) #[] #[]] 349) = W1 := ⟨_, rfl⟩
 have hb1 : Below W.heap.size W W1 := by rw [← hW1]; exact (Below.refl _ _).alloc (Nat.le_refl _) _
 have hy1 : W1.cell? ⟨W.heap.size, 0, none⟩ = some (.func (.yield l) #[] #[]) := by rw [← hW1]; simp
 have hc1 : W1.cell? ⟨Bs, 0, none⟩ = some (.string s) := (hb1.cell (p := ⟨Bs, 0, none⟩) hBW).trans hcW
 have hz1 : W.heap.size < W1.heap.size := by rw [← hW1]; simp
 refine callsIn_of_wp_marks Tryz.func249 rfl trivial ?_ rfl
 simp only [Tryz.ntmps249, List.size_toArray, List.length_cons, List.length_nil, Nat.reduceAdd, Nat.reduceSub, Array.replicate_succ, Array.replicate_zero, List.push_toArray, List.append_toArray, List.nil_append, List.cons_append]
 gi_wp2_with (refine ⟨trivial, fun h => (by cases h), ?_⟩; gi_at_call 250; refine (callsIn_wide.2 (Upward_any s _)).mono ?_; rintro e w3 ⟨rfl, rfl⟩)
 obtain ⟨W3, hW3⟩ : ∃ W3, W1.alloc (.cells #[.string s] 9) = W3 := ⟨_, rfl⟩
 have hb3 : Below W1.heap.size W1 W3 := by rw [← hW3]; exact (Below.refl _ _).alloc (Nat.le_refl _) _
 have hc3 : W3.cell? ⟨W1.heap.size, 0, none⟩ = some (.string s) := by rw [← hW3]; simp
 have hz3 : W1.heap.size < W3.heap.size := by rw [← hW3]; simp
 have hbW3 : Below W.heap.size W W3 := hb1.trans (hb3.mono hb1.size)
 have hy3 : W3.cell? ⟨W.heap.size, 0, none⟩ = some (.func (.yield l) #[] #[]) := (hb3.cell (p := ⟨W.heap.size, 0, none⟩) hz1).trans hy1
 have hcw3 : W3.heap[Bw]? = some (.cells #[h, .int .i64 en, .int .i64 tr, .int .i64 pa, .int .i64 mx, .pointer (some ⟨mp, 0, none⟩), .int .i64 now, .int .i64 nid] 122 (0, 0)) := (hbW3.block Bw (Nat.lt_of_lt_of_le hBw hW.size)).trans ((hW.block Bw hBw).trans hcw)
 have hM3 : Mem0 W3 mp := (hM.below hW).below hbW3
 have hBw3 : Bw < W3.heap.size := (Array.getElem?_eq_some_iff.1 hcw3).1
 rw [hW3]
 clear hW3 hW1
 refine range_iter (gf := 291) (fa := #[]) (lb := #[.pointer (some ⟨W1.heap.size, 0, none⟩)]) rfl (enters_of Tryz.func291 (by kernel_rfl) rfl) (upward_iter s W3 W1.heap.size hs hz3 hc3 (hGW.below hbW3)) (Below.refl _ _) (fun _ => rfl)
  (fun pre => (pre.length ≤ us.length ∧ J []) ∨ (pre.length = us.length + 1 ∧ J [()])) (fun c pre W' => c = .ret ∧ Jx [()] W') (fun c t A B' hs' hb' => ⟨hs'.1, hJx _ A B' hs'.2 (hb'.mono hbW3.size)⟩) (.inl ⟨Nat.zero_le _, h0⟩)
  (fun x => { tmps := #[.func (.yield l) #[] #[], .pointer (some ⟨Bs, 0, none⟩), .pointer (some ⟨Bw, 0, none⟩), .pointer (some ⟨W.heap.size, 0, none⟩), .string x, undef, undef, .string s, .func (.func 291) #[] #[.pointer (some ⟨W1.heap.size, 0, none⟩)], .string x, undef, undef, undef, undef, undef, undef, undef, undef, undef, undef, undef, undef, undef], defers := [] }) ?assign ?body ?done ?stop
 case assign =>
  intro l2 x W4 K hK
  gi_wp2
  exact hK
 case body =>
  intro l2 pre x rest W4 hxs hb4 hs4 hI
  have hbW4 : Below W.heap.size W W4 := hbW3.trans (hb4.mono hbW3.size)
  have hy4 : W4.cell? ⟨W.heap.size, 0, none⟩ = some (.func (.yield l) #[] #[]) := (hb4.cell (p := ⟨W.heap.size, 0, none⟩) (Nat.lt_trans hz1 hz3)).trans hy3
  obtain ⟨q0, q1, q2, q3, q4, q5, q6, q7⟩ := cells8 ((hb4.block Bw hBw3).trans hcw3)
  have hM4 : Mem0 W4 mp := hM3.below hb4
  rw [hus] at hxs
  have hlen := congrArg List.length hxs
  simp only [List.length_append, List.length_cons, List.length_nil] at hlen
  rcases List.eq_nil_or_concat rest with rfl | ⟨rest', y, rfl⟩
  ·obtain ⟨e1, e2⟩ := List.append_inj' hxs rfl
   simp only [List.cons.injEq, and_true] at e2
   subst e2
   have hJ0 : J [] := by
    rcases hI with h | h
    ·exact h.2
    ·rw [← e1] at h; omega
   have HY : Hid (∀ W5, Below W4.heap.size W4 W5 → Yields Tryz.prog l #[zoneV ⟨#[]⟩] W5 fun e W' => (e = .returned (.bool true) ∧ J ([] ++ [()]) ∧ Below W5.heap.size W5 W') ∨ (e = .returned (.bool false) ∧ Jx ([] ++ [()]) W' ∧ Stays W.heap.size W5 W')) :=
    fun W5 hb5 => hY [] () [] W5 rfl hJ0 (hbW4.trans (hb5.mono hbW4.size))
   clear hY hI
   gi_wp2_with (refine ⟨trivial, fun h => (by cases h), ?_⟩; gi_at_call 251; refine (callsIn_wide.2 (zone_root h en tr pa mx now nid mp _)).mono ?_; rintro e w5 ⟨rfl, hb5⟩; have hz5 : W.heap.size < w5.heap.size := Nat.lt_of_lt_of_le (Nat.lt_of_lt_of_le (Nat.lt_trans hz1 hz3) hb4.size) hb5.size; have hy5 : w5.cell? ⟨W.heap.size, 0, none⟩ = some (.func (.yield l) #[] #[]) := (hb5.cell (p := ⟨W.heap.size, 0, none⟩) (Nat.lt_of_lt_of_le (Nat.lt_trans hz1 hz3) hb4.size)).trans hy4; have hne5 : W.heap.size ≠ w5.heap.size := Nat.ne_of_lt hz5; obtain ⟨fn, tmps, assign, body, hy, hR⟩ := HY.out (w5.alloc (.cells #[.string ⟨#[]⟩, .slice none 0 0] 295)) (hb5.alloc hb5.size _))
   refine ⟨fun h => (by cases h), (round_in (hR _)).mono ?_⟩
   clear hR hy
   have hb6 : Below W4.heap.size W4 (w5.alloc (.cells #[.string ⟨#[]⟩, .slice none 0 0] 295)) := hb5.alloc hb5.size _
   rintro e W6 (⟨rfl, hJ6, hb7⟩ | ⟨rfl, hx6, hs6⟩)
   ·gi_wp2
    exact ⟨hb6.trans (hb7.mono hb6.size), .inr ⟨by rw [e1]; simp, hJ6⟩⟩
   ·gi_wp2
    exact ⟨((stays_of_below hb6).trans hs6).mono hbW3.size, rfl, hx6⟩
  ·have hxs' : us ++ [⟨#[]⟩] = (pre ++ x :: rest') ++ [y] := by rw [hxs]; simp
   obtain ⟨e1, e2⟩ := List.append_inj' hxs' rfl
   have hx : x ∈ us := by rw [e1]; simp
   obtain ⟨hx0, hx1⟩ := hne x hx
   have hxm : x.size ≤ maxLen := Nat.le_trans hx1 (by decide)
   have hl1 := congrArg List.length e1
   simp only [List.length_append, List.length_cons] at hl1
   have hJ0 : J [] := by
    rcases hI with h | h
    ·exact h.2
    ·omega
   clear hY hI
   gi_wp2_with (refine ⟨trivial, fun h => (by cases h), ?_⟩; gi_at_call 251; refine (callsIn_wide.2 (zone_none h en tr pa mx now nid mp x _ hM4 hxm hx0)).mono ?_; rintro e w5 ⟨rfl, hb5⟩)
   refine ⟨fun _ h => (by cases h), ?_⟩
   gi_wp2
   exact ⟨hb5.alloc hb5.size _, .inl ⟨by simp; omega, hJ0⟩⟩
 case done =>
  intro D W4 hD hb4 hI hK
  gi_wp2
  refine ⟨by simp, .inl ⟨_, _, rfl, run_takeDeferred hK, ?_⟩⟩
  refine ⟨_, results_none rfl _ _ _, ⟨_, rfl⟩, .inl ⟨?_, below_put (hbW3.trans (hb4.mono hbW3.size)) (Nat.le_trans hbW3.size hD) _⟩⟩
  rw [hus] at hI
  rcases hI with ⟨h, _⟩ | ⟨_, h⟩
  ·simp at h
   omega
  ·exact h
 case stop =>
  rintro D c pre W4 hD hpre ⟨rfl, hx⟩ hK
  gi_wp2
  refine ⟨by simp, .inl ⟨_, _, rfl, run_takeDeferred hK, ?_⟩⟩
  exact ⟨_, results_none rfl _ _ _, ⟨_, rfl⟩, .inr ⟨[()], List.prefix_refl _, low_putObj hJx _ (Nat.le_trans hbW3.size hD) hx⟩⟩
end Go.Proofs.YtefdokkadckbbaaGreatDoor
end
section
namespace Go.Proofs.YtefdokkadckbbaaGreatDoor
open Go.RowKit Go.Shelf
attribute [local go_sem] Oper.semAt_some
set_option maxRecDepth 100000
def IntSl (w : World) (v : Value) (hs : List Int) : Prop :=
 ∃ g c, v = .slice (some ⟨g, 0, none⟩) hs.length c ∧ g < w.heap.size ∧ hs.length ≤ c ∧ ∀ j x, hs[j]? = some x → w.cell? ⟨g, j, none⟩ = some (.int .i64 x)
theorem IntSl.below {w w' : World} {v : Value} {hs : List Int} (h : IntSl w v hs) (hb : Below w.heap.size w w') : IntSl w' v hs := by
 obtain ⟨g, c, h1, h2, h3, h4⟩ := h
 exact ⟨g, c, h1, Nat.lt_of_lt_of_le h2 hb.size, h3, fun j x hj => (hb.cell (p := ⟨g, j, none⟩) h2).trans (h4 j x hj)⟩
abbrev placeV (z t : ByteArray) (a : Int) : Value := .agg #[.string z, .string t, .int .i64 a]
set_option maxHeartbeats 2000000 in
theorem hints_iter (h : Value) (hs : List Int) (en tr pa mx now nid : Int) (mp : Nat) (w : World) (hh : IntSl w h hs) (h3 : hs.length ≤ 3) :
  Iter Tryz.prog 293 #[wV h en tr pa mx mp now nid] #[] (fun a : Int => #[placeV ⟨#[]⟩ ⟨#[]⟩ a]) hs w := by
 intro l J Jx W hW hJx hY h0 n
 obtain ⟨g, c, rfl, hg, hc, hcell⟩ := hh.below hW
 obtain ⟨W1, hW1⟩ : ∃ W1, W.alloc (.cells #[.slice (some ⟨g, 0, none⟩) hs.length c, .int .i64 en, .int .i64 tr, .int .i64 pa, .int .i64 mx, .pointer (some ⟨mp, 0, none⟩), .int .i64 now, .int .i64 nid] 122) = W1 := ⟨_, rfl⟩
 have hb1 : Below W.heap.size W W1 := by rw [← hW1]; exact (Below.refl _ _).alloc (Nat.le_refl _) _
 have q0 : W1.cell? ⟨W.heap.size, 0, none⟩ = some (.slice (some ⟨g, 0, none⟩) hs.length c) := by rw [← hW1]; simp
 have HC : Hid (∀ j x, hs[j]? = some x → W1.cell? ⟨g, j, none⟩ = some (.int .i64 x)) := fun j x hj => (hb1.cell (p := ⟨g, j, none⟩) hg).trans (hcell j x hj)
 have hg1 : g < W1.heap.size := Nat.lt_of_lt_of_le hg hb1.size
 clear hcell
 refine callsIn_of_wp Tryz.func293 rfl trivial ?_ rfl
 simp only [Tryz.ntmps293, List.size_toArray, List.length_cons, List.length_nil, Nat.reduceAdd, Nat.reduceSub, Array.replicate_succ, Array.replicate_zero, List.push_toArray, List.append_toArray, List.nil_append, List.cons_append]
 gi_wp2
 gi_loopw [10] (fun i wr => ∃ k : Nat, i = .int .i64 k ∧ k ≤ hs.length ∧ J (hs.take k) ∧ Below W1.heap.size W1 wr) (fun i _ => hs.length - (intOf i).toNat)
 case atStart => exact ⟨0, rfl, Nat.zero_le _, by simpa using h0, Below.refl _ _⟩
 case round =>
  obtain ⟨k, rfl, hk, hJk, hbk⟩ := hrel
  have hB1 : Below W.heap.size W wr := hb1.trans (hbk.mono hb1.size)
  by_cases hlt : k < hs.length
  ·obtain ⟨x, hx⟩ : ∃ x, hs[k]? = some x := ⟨hs[k], List.getElem?_eq_getElem hlt⟩
   have hcx : wr.cell? ⟨g, k, none⟩ = some (.int .i64 x) := (hbk.cell (p := ⟨g, k, none⟩) hg1).trans (HC.out k x hx)
   have hcut : hs = hs.take k ++ x :: hs.drop (k + 1) := by
    have : hs[k] = x := by rw [List.getElem?_eq_getElem hlt] at hx; simpa using hx
    rw [← this, List.getElem_cons_drop, List.take_append_drop]
   have htk : hs.take k ++ [x] = hs.take (k + 1) := by rw [List.take_add_one, hx]; rfl
   obtain ⟨fn, tmps, assign, body, hy, hR⟩ := hY (hs.take k) x (hs.drop (k + 1)) wr hcut hJk hB1
   rw [htk] at hR
   clear hY hcut htk hx
   have hlt' : (k : Int) < (hs.length : Int) := by omega
   gi_wp2
   refine ⟨fun h => (by cases h), (hR _).mono ?_⟩
   rintro e W3 (⟨rfl, hJ3, hk3⟩ | ⟨rfl, hx3, hs3⟩)
   ·gi_wp2
    go_roundw
    case rel => exact ⟨k + 1, rfl, hlt, hJ3, hbk.trans (hk3.mono hbk.size)⟩
    case measure => simp [intOf]; omega
   ·gi_wp2
    refine bodyPost_ret (results_none rfl _ _ _) rfl ?_
    exact ⟨⟨_, rfl⟩, .inr ⟨_, List.take_prefix _ _, hx3⟩⟩
  ·gi_wp2
   go_end0
   have e : hs.take k = hs := List.take_of_length_le (by omega)
   exact ⟨⟨_, rfl⟩, .inl ⟨e ▸ hJk, hB1⟩⟩
set_option maxHeartbeats 400000 in
theorem places_root (h : Value) (en tr pa mx now nid : Int) (mp : Nat) (w : World) :
  Calls Tryz.prog 252 #[wV h en tr pa mx mp now nid, zoneV ⟨#[]⟩] w fun e w' => e = .returned (.func (.func 293) #[wV h en tr pa mx mp now nid] #[]) ∧ Below w.heap.size w w' := by
 have hmf : ∀ (fn : Fn) (first cap : Array Value) (w : World), (Instr.makeFunc fn first cap).run Tryz.prog w = .ok (.func fn first cap) w := fun _ _ _ _ => rfl
 go_enter Tryz.func252, Tryz.ntmps252
 go_wp2
 go_ret
 exact ⟨rfl, ((Below.refl _ _).alloc (Nat.le_refl _) _).alloc (by simp) _⟩
set_option maxHeartbeats 1000000 in
theorem attempt_any (g : Nat) (z t nm : ByteArray) (a : Int) (w : World) (hg : g < w.heap.size) (hn : w.cell? ⟨g, 1, none⟩ = some (.string nm)) :
  Calls Tryz.prog 253 #[.pointer (some ⟨g, 0, none⟩), placeV z t a] w fun e w' => e = .returned (.agg #[.string nm, .string z, .int .i64 a]) ∧ Below w.heap.size w w' := by
 have hn0 : g ≠ w.heap.size := Nat.ne_of_lt hg
 have hn1 : g ≠ w.heap.size + 1 := by omega
 go_enter Tryz.func253, Tryz.ntmps253
 go_wp2
 go_region
 all_goals go_wp2
 refine bodyPost_ret (v := .agg #[.string nm, .string z, .int .i64 a]) (by simp [results, Tryz.results253, go_sem]) rfl ⟨rfl, ?_⟩
 exact (((Below.refl _ _).alloc (Nat.le_refl _) _).alloc (by simp) _).drew
end Go.Proofs.YtefdokkadckbbaaGreatDoor
end
section
namespace Go.Proofs.YtefdokkadckbbaaGreatDoor
open Go.RowKit Go.Shelf Go.MapKept Go.Maps
attribute [local go_sem] Oper.semAt_some
set_option maxRecDepth 100000
theorem allocs5 (w : World) (o0 o1 o2 o3 o4 : Obj) : ∃ X, X = ((((w.alloc o0).alloc o1).alloc o2).alloc o3).alloc o4 ∧ X.heap[w.heap.size]? = some o0 ∧ X.heap[w.heap.size + 1]? = some o1 ∧ X.heap[w.heap.size + 2]? = some o2 ∧ X.heap[w.heap.size + 3]? = some o3 ∧ X.heap[w.heap.size + 4]? = some o4 ∧ X.heap.size = w.heap.size + 5 ∧ Below w.heap.size w X := by
 refine ⟨_, rfl, ?_, ?_, ?_, ?_, ?_, by simp, ((((Below.refl _ _).alloc (Nat.le_refl _) _).alloc (by simp) _).alloc (by simp; omega) _ |>.alloc (by simp; omega) _).alloc (by simp; omega) _⟩
 ·rw [Below.heap_alloc _ _ _ (by first | (simp; done) | (simp; omega)), Below.heap_alloc _ _ _ (by first | (simp; done) | (simp; omega)), Below.heap_alloc _ _ _ (by first | (simp; done) | (simp; omega)), Below.heap_alloc _ _ _ (by first | (simp; done) | (simp; omega))]
  exact World.alloc_heap_new _ _
 ·rw [Below.heap_alloc _ _ _ (by first | (simp; done) | (simp; omega)), Below.heap_alloc _ _ _ (by first | (simp; done) | (simp; omega)), Below.heap_alloc _ _ _ (by first | (simp; done) | (simp; omega))]
  have := World.alloc_heap_new (w.alloc o0) o1
  rwa [World.size_alloc] at this
 ·rw [Below.heap_alloc _ _ _ (by first | (simp; done) | (simp; omega)), Below.heap_alloc _ _ _ (by first | (simp; done) | (simp; omega))]
  have := World.alloc_heap_new ((w.alloc o0).alloc o1) o2
  rwa [World.size_alloc, World.size_alloc] at this
 ·rw [Below.heap_alloc _ _ _ (by first | (simp; done) | (simp; omega))]
  have := World.alloc_heap_new (((w.alloc o0).alloc o1).alloc o2) o3
  rwa [World.size_alloc, World.size_alloc, World.size_alloc] at this
 ·have := World.alloc_heap_new ((((w.alloc o0).alloc o1).alloc o2).alloc o3) o4
  rwa [World.size_alloc, World.size_alloc, World.size_alloc, World.size_alloc] at this
abbrev attV (nm : ByteArray) (a : Int) : Value := .agg #[.string nm, .string ⟨#[]⟩, .int .i64 a]
def Tries (W : World) (m : Nat) (nm : ByteArray) (cnt : Int → Int) : Prop :=
 ∃ f, MapIs W Tryz.prog 359 m f ∧ ∀ a, (Lit.int .i64 a).wf = true → (f (attV nm a)).getD (.int .i64 0) = .int .i64 (cnt a)
theorem Tries.lt {W : World} {m : Nat} {nm : ByteArray} {cnt : Int → Int} (h : Tries W m nm cnt) : m < W.heap.size := by
 obtain ⟨f, h1, _⟩ := h; exact h1.lt
theorem Tries.same {W W' : World} {m : Nat} {nm : ByteArray} {cnt : Int → Int} (h : Tries W m nm cnt) (hm : W'.heap[m]? = W.heap[m]?) : Tries W' m nm cnt := by
 obtain ⟨f, h1, h2⟩ := h; exact ⟨f, h1.same hm, h2⟩
theorem zv3 (w : World) : (zeroValue 3).run Tryz.prog w = .ok (.int .i64 0) w := by kernel_rfl
theorem u187 : Tryz.prog.underlying 240 = some (.map 359 3) := by kernel_rfl
theorem Tries.look {W : World} {m : Nat} {nm : ByteArray} {cnt : Int → Int} (h : Tries W m nm cnt) (hn : nm.size ≤ maxLen) {a : Int} (ha : (Lit.int .i64 a).wf = true) :
  (Instr.lookup 240 (.map (some m)) (attV nm a) false).run Tryz.prog W = .ok (.int .i64 (cnt a)) W := by
 obtain ⟨f, h1, h2⟩ := h
 rw [h1.look law261 u187 (zv3 W) (key261 nm ⟨#[]⟩ a hn (by decide) ha), h2 a ha]
def UntR : Option Int → Ending → Prop
 | some a, e => e = .returned (.tuple #[placeV ⟨#[]⟩ ⟨#[]⟩ a, .bool true])
 | none, e => e = .returned (.tuple #[placeV ⟨#[]⟩ ⟨#[]⟩ 0, .bool false])
theorem unt_leaves {n B D : Nat} {tmps : Array Value} {R : Ending → World → Prop} {W : World} {a : Int} {b : Bool} (h3 : W.heap[B + 3]? = some (.cells #[.string ⟨#[]⟩, .string ⟨#[]⟩, .int .i64 a] 297 (0, 0))) (h4 : W.heap[B + 4]? = some (.cells #[.bool b] 4 (0, 0)))
  (t6 : tmps[6]? = some (.pointer (some ⟨B + 3, 0, none⟩))) (t7 : tmps[7]? = some (.pointer (some ⟨B + 4, 0, none⟩))) (hK : W.heap[D]? = some (.deferred (some []))) (hD : B + 5 ≤ D) (hR : R (.returned (.tuple #[placeV ⟨#[]⟩ ⟨#[]⟩ a, .bool b])) (W.putObj D (.deferred none))) :
  LeavesInM Fence.wide n Tryz.prog Tryz.f185 tmps R [{ target := .collected D, args := #[] }] .returning W := by
 have k3 : (W.putObj D (.deferred none)).heap[B + 3]? = some (.cells #[.string ⟨#[]⟩, .string ⟨#[]⟩, .int .i64 a] 297 (0, 0)) := (World.putObj_heap_other (by omega)).trans h3
 have k4 : (W.putObj D (.deferred none)).heap[B + 4]? = some (.cells #[.bool b] 4 (0, 0)) := (World.putObj_heap_other (by omega)).trans h4
 have y0 : (W.putObj D (.deferred none)).cell? ⟨B + 3, 0, none⟩ = some (.string ⟨#[]⟩) := by rw [cell_blk k3]; rfl
 have y1 : (W.putObj D (.deferred none)).cell? ⟨B + 3, 1, none⟩ = some (.string ⟨#[]⟩) := by rw [cell_blk k3]; rfl
 have y2 : (W.putObj D (.deferred none)).cell? ⟨B + 3, 2, none⟩ = some (.int .i64 a) := by rw [cell_blk k3]; rfl
 have y3 : (W.putObj D (.deferred none)).cell? ⟨B + 4, 0, none⟩ = some (.bool b) := by rw [cell_blk k4]; rfl
 refine ⟨by simp, .inl ⟨_, _, rfl, run_takeDeferred hK, ?_⟩⟩
 refine ⟨.tuple #[placeV ⟨#[]⟩ ⟨#[]⟩ a, .bool b], ?_, hR⟩
 simp [results, Tryz.results185, go_sem, y0, y1, y2, y3, t6, t7]
set_option maxHeartbeats 4000000 in
theorem untried_any (h : Value) (hs : List Int) (en tr pa mx now nid : Int) (mp g m : Nat) (nm : ByteArray) (cnt : Int → Int) (w : World) (hh : IntSl w h hs) (h3 : hs.length ≤ 3) (hw : ∀ a ∈ hs, (Lit.int .i64 a).wf = true)
  (hg : g < w.heap.size) (hn : w.cell? ⟨g, 1, none⟩ = some (.string nm)) (hm : w.cell? ⟨g, 4, none⟩ = some (.map (some m))) (hT : Tries w m nm cnt) (hnm : nm.size ≤ maxLen) :
  Calls Tryz.prog 185 #[.pointer (some ⟨g, 0, none⟩), wV h en tr pa mx mp now nid, zoneV ⟨#[]⟩] w fun e w' =>
   UntR (hs.find? (fun a => decide (cnt a < tr))) e ∧ Below w.heap.size w w' := by
 obtain ⟨n, hn3⟩ : ∃ n : Nat, 3 ≤ n := ⟨3, Nat.le_refl _⟩
 refine (callsIn_wide (n := n)).1 ?_
 obtain ⟨hsl, hc, rfl, hsg, hcc, hcell⟩ := id hh
 refine callsIn_of_wp_marks Tryz.func185 rfl trivial ?_ rfl
 simp only [Tryz.ntmps185, List.size_toArray, List.length_cons, List.length_nil, Nat.reduceAdd, Nat.reduceSub, Array.replicate_succ, Array.replicate_zero, List.push_toArray, List.append_toArray, List.nil_append, List.cons_append]
 gi_wp2_with (refine ⟨trivial, fun h => (by cases h), ?_⟩; gi_at_call 252; refine (callsIn_wide.2 (places_root _ en tr pa mx now nid mp _)).mono ?_; rintro e w1 ⟨rfl, hb1⟩)
 obtain ⟨X, hX, x0, x1, x2, x3, x4, x5, x6⟩ := allocs5 w (.cells #[.pointer (some ⟨g, 0, none⟩)] 197) (.cells #[.slice (some ⟨hsl, 0, none⟩) hs.length hc, .int .i64 en, .int .i64 tr, .int .i64 pa, .int .i64 mx, .pointer (some ⟨mp, 0, none⟩), .int .i64 now, .int .i64 nid] 122) (.cells #[.string ⟨#[]⟩, .slice none 0 0] 295) (.cells #[.string ⟨#[]⟩, .string ⟨#[]⟩, .int .i64 0] 297) (.cells #[.bool false] 4)
 rw [← hX] at hb1
 have z0 := hb1.size
 have hB : Below w.heap.size w w1 := x6.trans (hb1.mono (by omega))
 have b0 := (hb1.block _ (by omega)).trans x0
 have b1 := (hb1.block _ (by omega)).trans x1
 have b3 := (hb1.block _ (by omega)).trans x3
 have b4 := (hb1.block _ (by omega)).trans x4
 clear x0 x1 x2 x3 x4 x6 hX
 clear hb1
 have hz1 : w.heap.size + 5 ≤ w1.heap.size := by omega
 refine range_iterB (gf := 293) (fa := #[wV (.slice (some ⟨hsl, 0, none⟩) hs.length hc) en tr pa mx mp now nid]) (lb := #[]) rfl (enters_of Tryz.func293 (by kernel_rfl) rfl) (hints_iter _ hs en tr pa mx now nid mp w1 (hh.below hB) h3) (Below.refl _ _) (fun _ => rfl)
  (fun pre => ∀ a ∈ pre, tr ≤ cnt a)
  (fun c pre W' => c = .ret ∧ ∃ a pre', pre = pre' ++ [a] ∧ cnt a < tr ∧ (∀ a ∈ pre', tr ≤ cnt a) ∧ W'.heap[w.heap.size + 3]? = some (.cells #[.string ⟨#[]⟩, .string ⟨#[]⟩, .int .i64 a] 297 (0, 0)) ∧ W'.heap[w.heap.size + 4]? = some (.cells #[.bool true] 4 (0, 0)) ∧ Below w.heap.size w W')
  ?low (by simp) (fun x => .cells #[.string ⟨#[]⟩, .string ⟨#[]⟩, .int .i64 x] 297 (0, 0))
  (fun x b => { tmps := #[.pointer (some ⟨g, 0, none⟩), wV (.slice (some ⟨hsl, 0, none⟩) hs.length hc) en tr pa mx mp now nid, zoneV ⟨#[]⟩, .pointer (some ⟨w.heap.size, 0, none⟩), .pointer (some ⟨w.heap.size + 1, 0, none⟩), .pointer (some ⟨w.heap.size + 1 + 1, 0, none⟩), .pointer (some ⟨w.heap.size + 1 + 1 + 1, 0, none⟩), .pointer (some ⟨w.heap.size + 1 + 1 + 1 + 1, 0, none⟩), .pointer (some ⟨b, 0, none⟩), wV (.slice (some ⟨hsl, 0, none⟩) hs.length hc) en tr pa mx mp now nid, zoneV ⟨#[]⟩, .func (.func 293) #[wV (.slice (some ⟨hsl, 0, none⟩) hs.length hc) en tr pa mx mp now nid] #[], placeV ⟨#[]⟩ ⟨#[]⟩ x, undef, undef, undef, undef, undef, undef, undef, undef, undef, undef, undef, undef, undef, undef], defers := [] }) ?assign ?body ?done ?stop
 case low =>
  rintro c pre A B' ⟨h1, a, pre', h2, h3, h4, h5, h6, h7⟩ hb'
  exact ⟨h1, a, pre', h2, h3, h4, (hb'.block _ (by omega)).trans h5, (hb'.block _ (by omega)).trans h6, h7.trans (hb'.mono (by omega))⟩
 case assign =>
  intro l x W4 K hK
  gi_wp2
  exact hK _ ((Below.refl _ _).alloc (Nat.le_refl _) _) (World.alloc_heap_new _ _)
 case body =>
  intro l pre x rest b W4 hxs hb4 hb b5 hI
  have c0 : W4.cell? ⟨w.heap.size, 0, none⟩ = some (.pointer (some ⟨g, 0, none⟩)) := by rw [cell_blk ((hb4.block _ (by omega)).trans b0)]; rfl
  have c1 : W4.cell? ⟨w.heap.size + 1, 2, none⟩ = some (.int .i64 tr) := by rw [cell_blk ((hb4.block _ (by omega)).trans b1)]; rfl
  have p0 : W4.cell? ⟨b, 0, none⟩ = some (.string ⟨#[]⟩) := by rw [cell_blk b5]; rfl
  have p1 : W4.cell? ⟨b, 1, none⟩ = some (.string ⟨#[]⟩) := by rw [cell_blk b5]; rfl
  have p2 : W4.cell? ⟨b, 2, none⟩ = some (.int .i64 x) := by rw [cell_blk b5]; rfl
  have hgz : g < w1.heap.size := by omega
  have g1 : W4.cell? ⟨g, 1, none⟩ = some (.string nm) := (hb4.cell (p := ⟨g, 1, none⟩) hgz).trans ((hB.cell (p := ⟨g, 1, none⟩) hg).trans hn)
  have g4 : W4.cell? ⟨g, 4, none⟩ = some (.map (some m)) := (hb4.cell (p := ⟨g, 4, none⟩) hgz).trans ((hB.cell (p := ⟨g, 4, none⟩) hg).trans hm)
  have hg4 : g < W4.heap.size := Nat.lt_of_lt_of_le hgz hb4.size
  have hx : (Lit.int .i64 x).wf = true := hw x (by rw [hxs]; simp)
  have hT4 : Tries W4 m nm cnt := (hT.same (hB.block m hT.lt)).same (hb4.block m (Nat.lt_of_lt_of_le hT.lt hB.size))
  have hbz : b < W4.heap.size := (Array.getElem?_eq_some_iff.1 b5).1
  have HX : Hid (hs = pre ++ x :: rest) := hxs
  clear hxs
  have hd : 1 ≤ n - 1 - 1 := by omega
  have hmx : Tryz.prog.follows .mixedOrders = true := by kernel_rfl
  have HF : ∀ w', Below W4.heap.size W4 w' → w'.cell? ⟨w.heap.size, 0, none⟩ = some (.pointer (some ⟨g, 0, none⟩)) ∧ w'.cell? ⟨w.heap.size + 1, 2, none⟩ = some (.int .i64 tr) ∧ w'.cell? ⟨g, 4, none⟩ = some (.map (some m)) ∧ w'.cell? ⟨b, 0, none⟩ = some (.string ⟨#[]⟩) ∧ w'.cell? ⟨b, 1, none⟩ = some (.string ⟨#[]⟩) ∧ w'.cell? ⟨b, 2, none⟩ = some (.int .i64 x) := fun w' hb' =>
   ⟨(hb'.cell (p := ⟨w.heap.size, 0, none⟩) (show w.heap.size < W4.heap.size by have := hb4.size; omega)).trans c0, (hb'.cell (p := ⟨w.heap.size + 1, 2, none⟩) (show w.heap.size + 1 < W4.heap.size by have := hb4.size; omega)).trans c1, (hb'.cell (p := ⟨g, 4, none⟩) hg4).trans g4,
    (hb'.cell (p := ⟨b, 0, none⟩) hbz).trans p0, (hb'.cell (p := ⟨b, 1, none⟩) hbz).trans p1, (hb'.cell (p := ⟨b, 2, none⟩) hbz).trans p2⟩
  have HL : ∀ w', Below W4.heap.size W4 w' → (Instr.lookup 240 (.map (some m)) (attV nm x) false).run Tryz.prog w' = .ok (.int .i64 (cnt x)) w' := fun w' hb' => (hT4.same (hb'.block m hT4.lt)).look hnm hx
  clear c0 c1 p0 p1 p2 g4 hT4
  gi_wp2
  refine region_in (S := fun w' => Below W4.heap.size W4 w') hmx (by kernel_rfl) (by rintro ⟨_, _, h⟩; exact h) (Below.refl _ _).drew fun hS => ?_
  refine tkY (i := 0) (v := .pointer (some ⟨g, 0, none⟩)) rfl (Or.inl ⟨by rfl, fun w' hw => by obtain ⟨h0, h1, h4, i0, i1, i2⟩ := HF w' hw; go_simp⟩) hS ?_
  refine tkS (i := 1) (v := .pointer (some ⟨g, 0, none⟩)) rfl hS ?_
  refine tkS (i := 2) (v := .pointer (some ⟨g, 4, none⟩)) rfl hS ?_
  refine tkY (i := 3) (v := .map (some m)) rfl (Or.inl ⟨by rfl, fun w' hw => by obtain ⟨h0, h1, h4, i0, i1, i2⟩ := HF w' hw; go_simp⟩) hS ?_
  refine tkY (i := 4) (v := .pointer (some ⟨g, 0, none⟩)) rfl (Or.inl ⟨by rfl, fun w' hw => by obtain ⟨h0, h1, h4, i0, i1, i2⟩ := HF w' hw; go_simp⟩) hS ?_
  refine tkY (i := 5) (v := placeV ⟨#[]⟩ ⟨#[]⟩ x) rfl (Or.inl ⟨by rfl, fun w' hw => by obtain ⟨h0, h1, h4, i0, i1, i2⟩ := HF w' hw; go_simp⟩) hS ?_
  refine tkS (i := 8) (v := .pointer (some ⟨w.heap.size + 1, 0, none⟩)) rfl hS ?_
  refine tkS (i := 9) (v := .pointer (some ⟨w.heap.size + 1, 2, none⟩)) rfl hS ?_
  refine tkY (i := 10) (v := .int .i64 tr) rfl (Or.inl ⟨by rfl, fun w' hw => by obtain ⟨h0, h1, h4, i0, i1, i2⟩ := HF w' hw; go_simp⟩) hS ?_
  refine wpAnyH_ready (rs := [6]) (by kernel_rfl) (by simp) ?_
  refine AllReadyH.cons rfl (fun K hK => ?_) AllReadyH.nil
  go_simp
  refine (attempt_any g ⟨#[]⟩ ⟨#[]⟩ nm x _ (by exact hg4) (by exact g1)).mono ?_
  rintro e w5 ⟨rfl, hb5⟩
  have hb6 : Below W4.heap.size W4 w5 := (Below.refl _ _).drew.trans hb5
  refine hK.out _ _ hb6 fun hS => ?_
  refine tkY (i := 7) (v := .int .i64 (cnt x)) rfl (Or.inl ⟨by rfl, fun w' hw => by have hl := HL w' hw; go_simp⟩) hS ?_
  refine tkS (i := 11) (v := .bool (decide (cnt x < tr))) rfl hS ?_
  refine wpAnyH_done (by kernel_rfl) ?_ _
  have hI' : ∀ a ∈ pre, tr ≤ cnt a := hI
  have hz5 := hb6.size
  have hz4 := hb4.size
  have hBw : Below w.heap.size w w5 := hB.trans ((hb4.trans (hb6.mono hb4.size)).mono hB.size)
  have b3' := (hb6.block _ (by omega)).trans ((hb4.block _ (by omega)).trans b3)
  have b4' := (hb6.block _ (by omega)).trans ((hb4.block _ (by omega)).trans b4)
  obtain ⟨h0, h1, h4, i0, i1, i2⟩ := HF w5 hb6
  by_cases hlt : cnt x < tr
  ·have HI : Hid (∀ a ∈ pre, tr ≤ cnt a) := hI'
   clear hI hI' HF HL
   have e3 : w5.cell? ⟨w.heap.size + 1 + 1 + 1, 0, none⟩ = some (.string ⟨#[]⟩) := by rw [show w.heap.size + 1 + 1 + 1 = w.heap.size + 3 from rfl, cell_blk b3']; rfl
   have e4 : w5.cell? ⟨w.heap.size + 1 + 1 + 1, 1, none⟩ = some (.string ⟨#[]⟩) := by rw [show w.heap.size + 1 + 1 + 1 = w.heap.size + 3 from rfl, cell_blk b3']; rfl
   have e5 : w5.cell? ⟨w.heap.size + 1 + 1 + 1, 2, none⟩ = some (.int .i64 0) := by rw [show w.heap.size + 1 + 1 + 1 = w.heap.size + 3 from rfl, cell_blk b3']; rfl
   have e6 : w5.cell? ⟨w.heap.size + 1 + 1 + 1 + 1, 0, none⟩ = some (.bool false) := by rw [show w.heap.size + 1 + 1 + 1 + 1 = w.heap.size + 4 from rfl, cell_blk b4']; rfl
   have f3 : ∀ k, w5.frozen? ⟨w.heap.size + 1 + 1 + 1, k, none⟩ = false := fun k => frozen_of_row w5 _ k _ 297 b3'
   have f4 : ∀ k, w5.frozen? ⟨w.heap.size + 1 + 1 + 1 + 1, k, none⟩ = false := fun k => frozen_of_row w5 _ k _ 4 b4'
   gi_wp2
   have s0 := heap_setCell_same w5 (w.heap.size + 3) 0 _ 297 (.string ⟨#[]⟩) b3'
   have s1 := heap_setCell_same _ (w.heap.size + 3) 1 _ 297 (.string ⟨#[]⟩) s0
   have s2 := heap_setCell_same _ (w.heap.size + 3) 2 _ 297 (.int .i64 x) s1
   have s3 := heap_setCell_same ((w5.setCell ⟨w.heap.size + 3, 0, none⟩ (.string ⟨#[]⟩)).setCell ⟨w.heap.size + 3, 1, none⟩ (.string ⟨#[]⟩) |>.setCell ⟨w.heap.size + 3, 2, none⟩ (.int .i64 x)) (w.heap.size + 4) 0 _ 4 (.bool true) (by rw [Below.heap_setCell _ _ _ _ (by simp), Below.heap_setCell _ _ _ _ (by simp), Below.heap_setCell _ _ _ _ (by simp)]; exact b4')
   refine ⟨?_, rfl, x, pre, rfl, hlt, HI.out, ?_, ?_, ?_⟩
   ·exact ((((stays_of_below hb6).trans (stays_set _ (by omega) _ _)).trans (stays_set _ (by omega) _ _)).trans (stays_set _ (by omega) _ _)).trans (stays_set _ (by omega) _ _)
   ·rw [Below.heap_setCell _ _ _ _ (by simp)]
    simpa using s2
   ·simpa using s3
   ·exact (((hBw.set (by omega) 0 _).set (by omega) 1 _).set (by omega) 2 _).set (by omega) 0 _
  ·gi_wp2
   refine ⟨hb6, fun a ha => ?_⟩
   rcases List.mem_append.1 ha with h | h
   ·exact hI' a h
   ·simp at h
    subst h
    omega
 case done =>
  intro D W4 hD hb4 hI hK
  have hz4 := hb4.size
  have b3' := (hb4.block _ (by omega)).trans b3
  have b4' := (hb4.block _ (by omega)).trans b4
  have e3 : W4.cell? ⟨w.heap.size + 1 + 1 + 1, 0, none⟩ = some (.string ⟨#[]⟩) := by rw [show w.heap.size + 1 + 1 + 1 = w.heap.size + 3 from rfl, cell_blk b3']; rfl
  have e4 : W4.cell? ⟨w.heap.size + 1 + 1 + 1, 1, none⟩ = some (.string ⟨#[]⟩) := by rw [show w.heap.size + 1 + 1 + 1 = w.heap.size + 3 from rfl, cell_blk b3']; rfl
  have e5 : W4.cell? ⟨w.heap.size + 1 + 1 + 1, 2, none⟩ = some (.int .i64 0) := by rw [show w.heap.size + 1 + 1 + 1 = w.heap.size + 3 from rfl, cell_blk b3']; rfl
  have e6 : W4.cell? ⟨w.heap.size + 1 + 1 + 1 + 1, 0, none⟩ = some (.bool false) := by rw [show w.heap.size + 1 + 1 + 1 + 1 = w.heap.size + 4 from rfl, cell_blk b4']; rfl
  have f3 : ∀ k, W4.frozen? ⟨w.heap.size + 1 + 1 + 1, k, none⟩ = false := fun k => frozen_of_row W4 _ k _ 297 b3'
  have f4 : ∀ k, W4.frozen? ⟨w.heap.size + 1 + 1 + 1 + 1, k, none⟩ = false := fun k => frozen_of_row W4 _ k _ 4 b4'
  have HI : Hid (∀ a ∈ hs, tr ≤ cnt a) := hI
  clear hI
  gi_wp2
  have s0 := heap_setCell_same W4 (w.heap.size + 3) 0 _ 297 (.string ⟨#[]⟩) b3'
  have s1 := heap_setCell_same _ (w.heap.size + 3) 1 _ 297 (.string ⟨#[]⟩) s0
  have s2 := heap_setCell_same _ (w.heap.size + 3) 2 _ 297 (.int .i64 0) s1
  have s3 := heap_setCell_same ((W4.setCell ⟨w.heap.size + 3, 0, none⟩ (.string ⟨#[]⟩)).setCell ⟨w.heap.size + 3, 1, none⟩ (.string ⟨#[]⟩) |>.setCell ⟨w.heap.size + 3, 2, none⟩ (.int .i64 0)) (w.heap.size + 4) 0 _ 4 (.bool false) (by rw [Below.heap_setCell _ _ _ _ (by simp), Below.heap_setCell _ _ _ _ (by simp), Below.heap_setCell _ _ _ _ (by simp)]; exact b4')
  have hBw : Below w.heap.size w W4 := hB.trans (hb4.mono hB.size)
  refine unt_leaves (B := w.heap.size) (a := 0) (b := false) (by rw [Below.heap_setCell _ _ _ _ (by simp)]; simpa using s2) (by simpa using s3) rfl rfl ?_ (by omega) ⟨?_, ?_⟩
  ·rw [Below.heap_setCell _ _ _ _ (by simp; omega), Below.heap_setCell _ _ _ _ (by simp; omega), Below.heap_setCell _ _ _ _ (by simp; omega), Below.heap_setCell _ _ _ _ (by simp; omega)]
   exact hK
  ·rw [List.find?_eq_none.2 (fun a ha => by have := HI.out a ha; simpa using this)]
   rfl
  ·exact below_put ((((hBw.set (by omega) 0 _).set (by omega) 1 _).set (by omega) 2 _).set (by omega) 0 _) (by omega) _
 case stop =>
  rintro D c pre W4 hD hpre ⟨rfl, a, pre', rfl, h2, h4, h5, h6, h7⟩ hK
  have HF : Hid (hs.find? (fun a => decide (cnt a < tr)) = some a) := by
   obtain ⟨t, rfl⟩ := hpre
   show List.find? _ _ = _
   rw [List.append_assoc, List.find?_append, List.find?_eq_none.2 (fun b hb => by have := h4 b hb; simpa using this)]
   simp [h2]
  clear h4
  gi_wp2
  refine unt_leaves (B := w.heap.size) (a := a) (b := true) h5 h6 rfl rfl hK (by omega) ⟨?_, ?_⟩
  ·rw [HF.out]
   rfl
  ·exact below_put h7 (by omega) _
end Go.Proofs.YtefdokkadckbbaaGreatDoor
end
section
namespace Go.Proofs.YtefdokkadckbbaaGreatDoor
open Go.RowKit Go.Shelf Go.MapKept Go.Maps
set_option maxRecDepth 100000
structure Kept (L : List Nat) (W W' : World) : Prop where
 os : W'.os = W.os
 tape : W'.tape = W.tape
 output : W'.output = W.output
 size : W.heap.size ≤ W'.heap.size
 block : ∀ k, k < W.heap.size → k ∉ L → W'.heap[k]? = W.heap[k]?
theorem kept_of_below {L : List Nat} {W W' : World} (h : Below W.heap.size W W') : Kept L W W' := ⟨h.os, h.tape, h.output, h.size, fun k hk _ => h.block k hk⟩
theorem Kept.trans {L : List Nat} {X Y Z : World} (h : Kept L X Y) (k : Kept L Y Z) : Kept L X Z :=
 ⟨k.os.trans h.os, k.tape.trans h.tape, k.output.trans h.output, Nat.le_trans h.size k.size, fun i hi hl => (k.block i (Nat.lt_of_lt_of_le hi h.size) hl).trans (h.block i hi hl)⟩
theorem Kept.mono {L L' : List Nat} {X Y : World} (h : Kept L X Y) (hl : ∀ k ∈ L, k ∈ L') : Kept L' X Y := ⟨h.os, h.tape, h.output, h.size, fun k hk hn => h.block k hk (fun hm => hn (hl k hm))⟩
theorem Kept.refl (L : List Nat) (W : World) : Kept L W W := ⟨rfl, rfl, rfl, Nat.le_refl _, fun _ _ _ => rfl⟩
theorem Kept.set {L : List Nat} {W W' : World} (h : Kept L W W') {b : Nat} (hb : b ∈ L ∨ W.heap.size ≤ b) (o : Nat) (u : Value) : Kept L W (W'.setCell ⟨b, o, none⟩ u) :=
 ⟨h.os, h.tape, h.output, by simp; exact h.size, fun k hk hn => (Below.heap_setCell W' ⟨b, o, none⟩ u k (by rintro rfl; rcases hb with hb | hb; exact hn hb; exact absurd hk (Nat.not_lt.2 hb))).trans (h.block k hk hn)⟩
theorem Kept.put {L : List Nat} {W W' : World} (h : Kept L W W') {b : Nat} (hb : b ∈ L ∨ W.heap.size ≤ b) (o : Obj) : Kept L W (W'.putObj b o) :=
 ⟨h.os, h.tape, h.output, by simp; exact h.size, fun k hk hn => (World.putObj_heap_other (by rintro rfl; rcases hb with hb | hb; exact hn hb; omega)).trans (h.block k hk hn)⟩
theorem Kept.alloc {L : List Nat} {W W' : World} (h : Kept L W W') (o : Obj) : Kept L W (W'.alloc o) :=
 ⟨h.os, h.tape, h.output, by simp; have := h.size; omega, fun k hk hn => (Below.heap_alloc W' o k (Nat.lt_of_lt_of_le hk h.size)).trans (h.block k hk hn)⟩
theorem Kept.drew {L : List Nat} {W W' : World} (h : Kept L W W') : Kept L W W'.drew := ⟨h.os, h.tape, h.output, h.size, h.block⟩
abbrev taskO (num id : Int) (rp : Bool) (code : Int) (nm : ByteArray) (ty : Int) (va vs vm gs : Value) (sends : Int) (wn : ByteArray) (wt : Int) (wz : ByteArray) (at_ wi wa : Int) : Obj :=
 .cells #[.int .i64 num, .int .i64 id, .bool rp, .int .i64 code, .string nm, .int .i64 ty, va, vs, vm, gs, .int .i64 sends, .string wn, .int .i64 wt, .string wz, .int .i64 at_, .int .i64 wi, .int .i64 wa] 186 (0, 0)
abbrev stepV (ended : Bool) (addr id : Int) (rp : Bool) (code : Int) (nm : ByteArray) (ty : Int) (va vs vm : Value) : Value :=
 .agg #[.bool ended, .int .i64 addr, .int .i64 id, .bool rp, .int .i64 code, .string nm, .int .i64 ty, va, vs, vm]
set_option maxHeartbeats 400000 in
theorem use_root (h : Value) (en tr pa mx now nid a : Int) (mp : Nat) (w : World) :
  Calls Tryz.prog 254 #[wV h en tr pa mx mp now nid, placeV ⟨#[]⟩ ⟨#[]⟩ a] w fun e w' => e = .returned (.tuple #[]) ∧ Below w.heap.size w w' := by
 go_enter Tryz.func254, Tryz.ntmps254
 go_wp2
 refine bodyPost_ret (results_none rfl _ _ _) rfl ⟨rfl, ?_⟩
 exact ((Below.refl _ _).alloc (Nat.le_refl _) _).alloc (by simp) _
theorem cells17 {W : World} {b : Nat} {t : TypeId} {v0 v1 v2 v3 v4 v5 v6 v7 v8 v9 v10 v11 v12 v13 v14 v15 v16 : Value} (h : W.heap[b]? = some (.cells #[v0, v1, v2, v3, v4, v5, v6, v7, v8, v9, v10, v11, v12, v13, v14, v15, v16] t (0, 0))) :
  W.cell? ⟨b, 0, none⟩ = some v0 ∧ W.cell? ⟨b, 1, none⟩ = some v1 ∧ W.cell? ⟨b, 2, none⟩ = some v2 ∧ W.cell? ⟨b, 3, none⟩ = some v3 ∧ W.cell? ⟨b, 4, none⟩ = some v4 ∧ W.cell? ⟨b, 5, none⟩ = some v5 ∧ W.cell? ⟨b, 6, none⟩ = some v6 ∧ W.cell? ⟨b, 7, none⟩ = some v7 ∧ W.cell? ⟨b, 8, none⟩ = some v8 ∧ W.cell? ⟨b, 9, none⟩ = some v9 ∧ W.cell? ⟨b, 10, none⟩ = some v10 ∧ W.cell? ⟨b, 11, none⟩ = some v11 ∧ W.cell? ⟨b, 12, none⟩ = some v12 ∧ W.cell? ⟨b, 13, none⟩ = some v13 ∧ W.cell? ⟨b, 14, none⟩ = some v14 ∧ W.cell? ⟨b, 15, none⟩ = some v15 ∧ W.cell? ⟨b, 16, none⟩ = some v16 := by
 refine ⟨?_, ?_, ?_, ?_, ?_, ?_, ?_, ?_, ?_, ?_, ?_, ?_, ?_, ?_, ?_, ?_, ?_⟩ <;> (rw [cell_blk h]; rfl)
set_option maxHeartbeats 1000000 in
theorem reply_none (tb : Nat) (num id : Int) (rp : Bool) (cd : Int) (nm : ByteArray) (ty : Int) (aa as_ am : Option Addr) (na ns nn ca cs cm : Nat) (gs : Value) (sends : Int) (wn : ByteArray) (wt : Int) (wz : ByteArray) (at_ wi wa now code : Int) (w : World)
  (ht : w.heap[tb]? = some (taskO num id rp cd nm ty (.slice aa na ca) (.slice as_ ns cs) (.slice am nn cm) gs sends wn wt wz at_ wi wa)) :
  Calls Tryz.prog 245 #[.pointer (some ⟨tb, 0, none⟩), .int .i64 now, .int .i64 code, .slice none 0 0] w fun e w' =>
   e = .returned (stepV true 0 id true code nm ty (.slice aa na ca) (.slice as_ ns cs) (.slice am nn cm)) ∧ Below w.heap.size w w' := by
 have hlt : tb < w.heap.size := (Array.getElem?_eq_some_iff.1 ht).1
 obtain ⟨q0, q1, q2, q3, q4, q5, q6, q7, q8, q9, q10, q11, q12, q13, q14, q15, q16⟩ := cells17 ht
 have n0 : tb ≠ w.heap.size := Nat.ne_of_lt hlt
 go_enter Tryz.func245, Tryz.ntmps245
 go_wp2
 refine wp_loop_rounds 1 ?_
 rw [rounds_succ]
 go_wp2
 refine bodyPost_ret (v := stepV true 0 id true code nm ty (.slice aa na ca) (.slice as_ ns cs) (.slice am nn cm)) (by simp [results, Tryz.results245, go_sem]) rfl ⟨rfl, ?_⟩
 exact ((Below.refl _ _).alloc (Nat.le_refl _) _).alloc (by simp) _
end Go.Proofs.YtefdokkadckbbaaGreatDoor
end
