/- J1 U1 U2 Pr Pb -/
import Derived.Deep.AppendLies
import Derived.Deep.RegionHeldLaw
import Derived.Test.YtefdokkadckbbaaGreatDoorZ21
section
namespace Go.Proofs.YtefdokkadckbbaaGreatDoor
open Go.RowKit
set_option maxRecDepth 100000
theorem grown_trans {a b c : World} {r : Option Nat} (h : a.grownBy b r) (k : b.grownBy c r) : a.grownBy c r :=
 ⟨k.os.trans h.os, k.tape.trans h.tape, k.output.trans h.output, Nat.le_trans h.size k.size, fun j hj hr => (k.block j (Nat.lt_of_lt_of_le hj h.size) hr).trans (h.block j hj hr)⟩
theorem grown_refl (a : World) (r : Option Nat) : a.grownBy a r := ⟨rfl, rfl, rfl, Nat.le_refl _, fun _ _ _ => rfl⟩
theorem grown_none {a b : World} {r : Option Nat} (h : a.grownBy b none) : a.grownBy b r := ⟨h.os, h.tape, h.output, h.size, fun k hk _ => h.block k hk (by simp)⟩
def Lies (w w' : World) (v : Value) (g : Nat) : Prop := w.grownBy w' v.ownBlock ∧ (v.ownBlock = some g ∨ (w.heap.size ≤ g ∧ w.grownBy w' none)) ∧ g < w'.heap.size
theorem run_append_two {P : Program} (w : World) (base : Nat) (t ty e : TypeId) (i : TypeInfo) (z : Value) (size bytes : Nat) (ht : P.underlying t = some (.slice e)) (hi : P.info? e = some i) (hz : i.zero = some z)
  (hsize : i.size = size) (hby : i.bytes = bytes) (hzs : z.cells.size = size)
  (v : Value) (n : Nat) (xs : List Value) (hown : w.ownsRow base e size v n xs)
  (a : Addr) (m c : Nat) (news : List Value) (hl : news.length = m * size) (hnews : ∀ j u, news[j]? = some u → w.cell? (a.add j) = some u) (h1 : ∀ u ∈ news, u.oneCell' = true)
  (hm : 0 < m) (h63 : n + m ≤ maxLen) (hbytes : (n + m) * bytes ≤ 140737488355328) (hbase : base ≤ w.heap.size) :
  ∃ g cap w', (Builtin.append_ #[t, t] ty #[v, .slice (some a) m c]).run P w = .ok (.slice (some ⟨g, 0, none⟩) (n + m) cap) w' ∧
   w'.ownsRow base e size (.slice (some ⟨g, 0, none⟩) (n + m) cap) (n + m) (xs ++ news) ∧ w'.ownsRow base e size v n xs ∧ Lies w w' v g := by
 subst hsize
 subst hby
 have hsm : n + m ≤ 9223372036854775807 := by simp only [maxLen] at h63; omega
 have hlen : (xs ++ news).length = (n + m) * i.size := by rw [List.length_append, hown.1, hl, Nat.add_mul]
 have fresh : ∀ (old : Nat) (cs : Array Value), cs = xs.toArray ++ news.toArray ++ Builtin.zeroCells z.cells (grownCap w (n + m) old e - (n + m)) →
   (w.drew.alloc (.cells cs e)).ownsRow base e i.size (.slice (some ⟨w.heap.size, 0, none⟩) (n + m) (grownCap w (n + m) old e)) (n + m) (xs ++ news) ∧
   (w.drew.alloc (.cells cs e)).ownsRow base e i.size v n xs ∧ Lies w (w.drew.alloc (.cells cs e)) v w.heap.size := by
  intro old cs hcs
  have hge := grownCap_ge w (n + m) old e
  have hcm := grownCap_le_maxLen w (n + m) old e h63
  have hg : w.grownBy (w.drew.alloc (.cells cs e)) none := ⟨rfl, rfl, rfl, by simp, fun k hk _ => Below.heap_alloc w.drew _ k hk⟩
  refine ⟨⟨hlen, .inr ⟨w.heap.size, _, cs, rfl, hbase, Go.heap_alloc_new w.drew _, hge, hcm, ?_, ?_⟩⟩, hown.kept hg (by cases v.ownBlock <;> simp), grown_none hg, .inr ⟨Nat.le_refl _, hg⟩, by simp⟩
  ·rw [hcs]
   simp only [Array.size_append, List.size_toArray, size_zeroCells, hzs, hown.1, hl, ← Nat.add_mul]
   congr 1
   omega
  ·rw [hcs]
   simp only [Array.toList_append]
   rw [← hlen]
   exact List.take_left
 rcases hown.2 with ⟨rfl, rfl⟩ | ⟨g, cap, cur, rfl, hbg, hg, hnc, hcm, hcs, htake⟩
 ·obtain rfl : xs = [] := List.eq_nil_of_length_eq_zero (by simpa using hown.1)
  have hr := run_append_nil (P := P) w t ty e i z ht hi hz a m c news hl hnews hm (by omega) (by have hb := hbytes; simp only [Nat.zero_add] at hb; omega)
  have hf := fresh 0 (news.toArray ++ Builtin.zeroCells z.cells (grownCap w m 0 e - m)) (by simp)
  simp only [Nat.zero_add] at hf ⊢
  exact ⟨_, _, _, hr, hf⟩
 ·by_cases hroom : n + m ≤ cap
  ·have hfit : n * i.size + news.length ≤ cur.size := by rw [hl, hcs, ← Nat.add_mul]; exact Nat.mul_le_mul_right _ hroom
   have hr := run_append_room (P := P) w t ty e i ht hi g n cap cur hg a m c news hl hnews h1 hroom hfit
   have hsz : (cur.toList.take (n * i.size) ++ news ++ cur.toList.drop (n * i.size + news.length)).toArray.size = cap * i.size := by
    simp only [List.size_toArray, List.length_append, List.length_take, List.length_drop, Array.length_toList]
    omega
   have hgr : w.grownBy (w.setRow g (cur.toList.take (n * i.size) ++ news ++ cur.toList.drop (n * i.size + news.length)).toArray) (some g) := ⟨rfl, rfl, rfl, by simp, fun k _ hk => setRow_other w g k _ (fun e => hk (by simp [e]))⟩
   refine ⟨g, cap, _, hr, ⟨hlen, .inr ⟨g, cap, _, rfl, hbg, setRow_heap w g cur _ e _ hg, hroom, hcm, hsz, ?_⟩⟩, ⟨hown.1, .inr ⟨g, cap, _, rfl, hbg, setRow_heap w g cur _ e _ hg, hnc, hcm, hsz, ?_⟩⟩, hgr, .inl rfl, ?_⟩
   ·rw [htake, ← hlen]
    exact List.take_left
   ·simp only [htake, List.append_assoc]
    rw [← hown.1]
    exact List.take_left
   ·have := (Array.getElem?_eq_some_iff.1 hg).1
    simpa using this
  ·have holds : ∀ j u, xs[j]? = some u → w.cell? ((⟨g, 0, none⟩ : Addr).add j) = some u := hown.cells (g := g) rfl
   have hr := run_append_grow (P := P) w t ty e i z ht hi hz ⟨g, 0, none⟩ n cap xs hown.1 holds a m c news hl hnews (by omega) (by omega) (growslice_fits (by omega) hbytes)
   exact ⟨_, _, _, hr, fresh cap _ rfl⟩
theorem wp_append_two {P : Program} (w : World) {o : Oper} {a : Act} {K : Act → World → Prop} {Q : Exit → Act → World → Prop} (s x : Operand) (t : TypeId)
  (ho : o.op = .call { callee := .builtin .append, args := #[s, x], argTypes := #[t, t] })
  (base : Nat) (e : TypeId) (i : TypeInfo) (z : Value) (size bytes : Nat) (ht : P.underlying t = some (.slice e)) (hi : P.info? e = some i) (hz : i.zero = some z)
  (hsize : i.size = size) (hby : i.bytes = bytes) (hzs : z.cells.size = size)
  (v : Value) (n : Nat) (xs : List Value) (hs : a.eval s = v) (hown : w.ownsRow base e size v n xs)
  (ad : Addr) (m c : Nat) (news : List Value) (hx : a.eval x = .slice (some ad) m c) (hl : news.length = m * size) (hnews : ∀ j u, news[j]? = some u → w.cell? (ad.add j) = some u) (h1 : ∀ u ∈ news, u.oneCell' = true)
  (hm : 0 < m) (h63 : n + m ≤ maxLen) (hbytes : (n + m) * bytes ≤ 140737488355328) (hbase : base ≤ w.heap.size)
  (h : ∀ g cap w', w'.ownsRow base e size (.slice (some ⟨g, 0, none⟩) (n + m) cap) (n + m) (xs ++ news) → w'.ownsRow base e size v n xs → Lies w w' v g → K (a.put o.dst (.slice (some ⟨g, 0, none⟩) (n + m) cap)) w') : o.wp P a w K Q := by
 obtain ⟨g, cap, w', hr, h2, h3, h4⟩ := run_append_two (P := P) w base t o.type e i z size bytes ht hi hz hsize hby hzs v n xs hown ad m c news hl hnews h1 hm h63 hbytes hbase
 unfold Oper.wp execOp
 simp only [ho, resolve, invoke, builtin, Sem.run_bind, Sem.run_pure, Result.andThen_ok, List.map_toArray, List.map_cons, List.map_nil, hs, hx, hr]
 exact h g cap w' h2 h3 h4
theorem wpList_append_two {P : Program} (w : World) {ops : Array Oper} {rest : List Oper} {o : Oper} {a : Act} {Q : Exit → Act → World → Prop} (hgd : o.guard = none) (s x : Operand) (t : TypeId)
  (ho : o.op = .call { callee := .builtin .append, args := #[s, x], argTypes := #[t, t] })
  (base : Nat) (e : TypeId) (i : TypeInfo) (z : Value) (size bytes : Nat) (ht : P.underlying t = some (.slice e)) (hi : P.info? e = some i) (hz : i.zero = some z)
  (hsize : i.size = size) (hby : i.bytes = bytes) (hzs : z.cells.size = size)
  (v : Value) (n : Nat) (xs : List Value) (hs : a.eval s = v) (hown : w.ownsRow base e size v n xs)
  (ad : Addr) (m c : Nat) (news : List Value) (hx : a.eval x = .slice (some ad) m c) (hl : news.length = m * size) (hnews : ∀ j u, news[j]? = some u → w.cell? (ad.add j) = some u) (h1 : ∀ u ∈ news, u.oneCell' = true)
  (hm : 0 < m) (h63 : n + m ≤ maxLen) (hbytes : (n + m) * bytes ≤ 140737488355328) (hbase : base ≤ w.heap.size)
  (h : ∀ g cap w', w'.ownsRow base e size (.slice (some ⟨g, 0, none⟩) (n + m) cap) (n + m) (xs ++ news) → w'.ownsRow base e size v n xs → Lies w w' v g → wpList P ops Q rest (a.put o.dst (.slice (some ⟨g, 0, none⟩) (n + m) cap)) w') : wpList P ops Q (o :: rest) a w :=
 wpList_plain hgd fun _ hK => wp_append_two w s x t ho base e i z size bytes ht hi hz hsize hby hzs v n xs hs hown ad m c news hx hl hnews h1 hm h63 hbytes hbase fun g cap w' h2 h3 h4 => hK _ _ (h g cap w' h2 h3 h4)
theorem wpList_storeG {P : Program} {w : World} {ops : Array Oper} {rest : List Oper} {o : Oper} {a : Act} {Q : Exit → Act → World → Prop} (hgd : o.guard = none) (ty : TypeId) (x y : Operand) (ho : o.op = .store ty x y)
  (g off : Nat) (cells : Array Value) (hx : a.eval x = .pointer (some ⟨g, off, none⟩)) (hy : a.eval y = .agg cells)
  (cur : Array Value) (t : TypeId) (hg : w.heap[g]? = some (.cells cur t (0, 0))) (hfit : off + cells.size ≤ cur.size) (hi : (P.info? ty).map (·.size) = some cells.size) (h1 : ∀ v ∈ cells.toList, v.oneCell' = true)
  (h : ∀ w', w'.heap[g]? = some (.cells (splice cur.toList off cells.toList).toArray t (0, 0)) → w.grownBy w' (some g) → wpList P ops Q rest (a.put o.dst undef) w') :
  wpList P ops Q (o :: rest) a w := by
 refine wpList_plain hgd fun K hK => ?_
 have hst := run_storeCells_at P g off t cells.toList 0 cur w hg (by simpa using hfit) h1
 simp only [Nat.add_zero] at hst
 have hrun : (storeVar ty ⟨g, off, none⟩ (.agg cells)).run P w = .ok () (w.setRow g (splice cur.toList off cells.toList).toArray) := by
  cases hq : P.info? ty with
  | none => simp [hq] at hi
  | some i =>
   have hs : cells.size = i.size := by simp [hq] at hi; omega
   simp [storeVar, sizeOf, typeInfo, hq, Value.cells, hs, hst, splice]
 unfold Oper.wp execOp
 simp only [ho, hx, hy, Instr.storeAt, Instr.sureAddr, Sem.run_bind, Sem.run_pure, Result.andThen_ok, hrun]
 exact hK _ _ (h _ (setRow_heap w g cur _ t _ hg) ⟨rfl, rfl, rfl, by simp, fun k _ hk => setRow_other w g k _ (fun e => hk (by simp [e]))⟩)
def ownM (x : Int) : Rec := ⟨⟨#[]⟩, x, 0, 0, ⟨#[]⟩⟩
def marks (x : Int) (n : Nat) : List Value := rcells (List.replicate n (ownM x))
theorem marks_length (x : Int) (n : Nat) : (marks x n).length = n * 5 := by simp [marks, rcells_length]
theorem marks_add (x : Int) (n m : Nat) : marks x (n + m) = marks x n ++ marks x m := by
 unfold marks; rw [← rcells_append, List.replicate_append_replicate]
theorem marks_take (x : Int) {n m : Nat} (h : n ≤ m) : (marks x m).take (n * 5) = marks x n := by
 obtain ⟨k, rfl⟩ : ∃ k, m = n + k := ⟨m - n, by omega⟩
 rw [marks_add, ← marks_length x n]; exact List.take_left
def MarkSl (W : World) (v : Value) (n : Nat) (x : Int) : Prop :=
 (v = .slice none 0 0 ∧ n = 0) ∨ ∃ g cap cur, v = .slice (some ⟨g, 0, none⟩) n cap ∧ W.heap[g]? = some (.cells cur 71 (0, 0)) ∧ cur.toList.take (n * 5) = marks x n
theorem MarkSl.own {W : World} {b : Nat} {v : Value} {n : Nat} {x : Int} (h : W.ownsRow b 71 5 v n (marks x n)) : MarkSl W v n x := by
 rcases h.2 with ⟨h1, h2⟩ | ⟨g, cap, cur, hv, _, hg, _, _, _, ht⟩
 ·exact .inl ⟨h1, h2⟩
 ·exact .inr ⟨g, cap, cur, hv, hg, ht⟩
theorem MarkSl.kept {W W' : World} {v : Value} {n : Nat} {x : Int} (h : MarkSl W v n x) (hk : ∀ k cur, v.ownBlock = some k → W.heap[k]? = some (.cells cur 71 (0, 0)) → W'.heap[k]? = W.heap[k]?) : MarkSl W' v n x := by
 rcases h with h | ⟨g, cap, cur, rfl, hg, ht⟩
 ·exact .inl h
 ·exact .inr ⟨g, cap, cur, rfl, (hk g cur rfl hg).trans hg, ht⟩
theorem MarkSl.app {W W' : World} {l v : Value} {n N g cap b : Nat} {x : Int} (h : MarkSl W v n x) (hl : Lies W W' l g) (hr : W'.ownsRow b 71 5 (.slice (some ⟨g, 0, none⟩) N cap) N (marks x N)) (hn : n ≤ N) : MarkSl W' v n x := by
 rcases h with h | ⟨g', cap', cur, rfl, hg, ht⟩
 ·exact .inl h
 have hlt := (Array.getElem?_eq_some_iff.1 hg).1
 by_cases hb : l.ownBlock = some g'
 ·rcases hl.2.1 with h1 | ⟨_, h2⟩
  ·obtain rfl : g' = g := by rw [h1] at hb; simpa using hb.symm
   rcases hr.2 with ⟨h3, _⟩ | ⟨g2, cap2, cur2, hv2, _, hg2, _, _, _, ht2⟩
   ·simp at h3
   ·simp at hv2
    obtain ⟨rfl, _⟩ := hv2
    refine .inr ⟨g', cap', cur2, rfl, hg2, ?_⟩
    rw [← marks_take x hn, ← ht2, List.take_take, Nat.min_eq_left (Nat.mul_le_mul_right 5 hn)]
  ·exact .inr ⟨g', cap', cur, rfl, (h2.block g' hlt (by simp)).trans hg, ht⟩
 ·exact .inr ⟨g', cap', cur, rfl, (hl.1.block g' hlt (fun e => hb e.symm)).trans hg, ht⟩
theorem info3 : (Tryz.prog.info? 3).map (fun i => (i.zero, i.size, i.bytes)) = some (some (.int .i64 0), 1, 8) := by kernel_rfl
theorem u28 : Tryz.prog.underlying 28 = some (.slice 3) := by kernel_rfl
structure Ent where
 v : Value
 n : Nat
 x : Int
structure Bk (W : World) (B lo hi : Nat) (rs rm : Value) (es : List Ent) (nx : Nat) : Prop where
 box : W.heap[B]? = some (.cells #[.slice none 0 0, rs, rm, .slice none 0 0, .slice none 0 0, .slice none 0 0, .slice none 0 0, .slice none 0 0, .slice none 0 0, .int .i64 (nx : Int)] 97 (0, 0))
 rs : W.ownsRow (B + 1) 25 1 rs es.length (es.map (·.v))
 rm : W.ownsRow (B + 1) 3 1 rm es.length (es.map fun e => Value.int .i64 e.x)
 ent : ∀ e ∈ es, MarkSl W e.v e.n e.x ∧ e.n ≤ 64 ∧ (∀ k, e.v.ownBlock = some k → k < lo ∨ hi ≤ k)
def OKept (l : Value) (W W' : World) : Prop := ∀ k cur t, t ≠ 97 → t ≠ 25 → t ≠ 3 → W.heap[k]? = some (.cells cur t (0, 0)) → l.ownBlock ≠ some k → W'.heap[k]? = W.heap[k]?
theorem own_blk {w : World} {base e size n : Nat} {v : Value} {xs : List Value} (h : w.ownsRow base e size v n xs) {k : Nat} (hk : v.ownBlock = some k) : ∃ cur, w.heap[k]? = some (.cells cur e (0, 0)) := by
 rcases h.2 with ⟨rfl, _⟩ | ⟨g, cap, cur, rfl, _, hg, _⟩
 ·simp [Value.ownBlock] at hk
 ·simp [Value.ownBlock] at hk
  subst hk; exact ⟨cur, hg⟩
theorem kind_ne {w : World} {k k' e e' : Nat} {c c' : Array Value} (h : w.heap[k]? = some (.cells c e (0, 0))) (h' : w.heap[k']? = some (.cells c' e' (0, 0))) (hne : e ≠ e') : k ≠ k' := by
 rintro rfl
 rw [h] at h'
 simp at h'
 exact hne h'.2
theorem own_far {w : World} {base e size n k e' : Nat} {v : Value} {xs : List Value} {c : Array Value} (h : w.ownsRow base e size v n xs) (hk : w.heap[k]? = some (.cells c e' (0, 0))) (hne : e ≠ e') : some k ≠ v.ownBlock := by
 intro hv
 obtain ⟨cur, hc⟩ := own_blk h hv.symm
 exact kind_ne hc hk hne rfl
theorem own_apart {w : World} {b1 e1 s1 n1 b2 e2 s2 n2 : Nat} {v1 v2 : Value} {x1 x2 : List Value} (h1 : w.ownsRow b1 e1 s1 v1 n1 x1) (h2 : w.ownsRow b2 e2 s2 v2 n2 x2) (hne : e1 ≠ e2) : v1.ownBlock = none ∨ v1.ownBlock ≠ v2.ownBlock := by
 cases hv : v1.ownBlock with
 | none => exact .inl rfl
 | some k =>
  obtain ⟨cur, hc⟩ := own_blk h1 hv
  exact .inr (own_far h2 hc (Ne.symm hne))
theorem take_splice {α : Type} (L cs : List α) (off N : Nat) (h : off + cs.length ≤ N) (hN : N ≤ L.length) : (splice L off cs).take N = splice (L.take N) off cs := by
 unfold splice
 have e1 : (L.take N).take off = L.take off := by rw [List.take_take, Nat.min_eq_left (by omega)]
 have e2 : (L.take N).drop (off + cs.length) = (L.drop (off + cs.length)).take (N - (off + cs.length)) := by rw [List.drop_take]
 rw [e1, e2, List.take_append, List.take_append, List.take_of_length_le (by simp; omega), List.take_of_length_le (l := cs) (by simp; omega)]
 congr 2
 congr 1
 simp
 omega
def markO (x : Int) : Array Value := #[.string ⟨#[]⟩, .int .i64 x, .int .i64 0, .int .i64 0, .string ⟨#[]⟩]
theorem mark_cells {w : World} {M : Nat} {x : Int} (h : w.heap[M]? = some (.cells (markO x) 71 (0, 0))) :
  w.cell? ⟨M, 0, none⟩ = some (.string ⟨#[]⟩) ∧ w.cell? ⟨M, 1, none⟩ = some (.int .i64 x) ∧ w.cell? ⟨M, 2, none⟩ = some (.int .i64 0) ∧ w.cell? ⟨M, 3, none⟩ = some (.int .i64 0) ∧ w.cell? ⟨M, 4, none⟩ = some (.string ⟨#[]⟩) := by
 refine ⟨?_, ?_, ?_, ?_, ?_⟩ <;> (rw [cell_blk h]; rfl)
structure Mid (W W1 : World) (B lo hi : Nat) (rs rm : Value) (es : List Ent) (nx : Nat) (x : Int) : Prop where
 box : W1.heap[B]? = some (.cells #[.slice none 0 0, rs, rm, .slice none 0 0, .slice none 0 0, .slice none 0 0, .slice none 0 0, .slice none 0 0, .slice none 0 0, .int .i64 ((nx + 1 : Nat) : Int)] 97 (0, 0))
 mrk : W1.heap[W.heap.size]? = some (.cells (markO x) 71 (0, 0))
 rs : W1.ownsRow (B + 1) 25 1 rs es.length (es.map (·.v))
 rm : W1.ownsRow (B + 1) 3 1 rm es.length (es.map fun e => Value.int .i64 e.x)
 ent : ∀ e ∈ es, MarkSl W1 e.v e.n e.x ∧ e.n ≤ 64 ∧ (∀ k, e.v.ownBlock = some k → k < lo ∨ hi ≤ k)
 size : W.heap.size < W1.heap.size
 low : ∀ k, k < W.heap.size → k ≠ B → W1.heap[k]? = W.heap[k]?
 os : W1.os = W.os
 tape : W1.tape = W.tape
 output : W1.output = W.output
theorem MarkSl.alloc {W : World} {v : Value} {n : Nat} {x : Int} (h : MarkSl W v n x) (o : Obj) : MarkSl (W.alloc o) v n x :=
 h.kept fun k _ _ hk => Below.heap_alloc W o k (Array.getElem?_eq_some_iff.1 hk).1
theorem Mid.mark {W W1 wr : World} {B lo hi : Nat} {rs rm : Value} {es : List Ent} {nx : Nat} {x : Int} (h : Mid W W1 B lo hi rs rm es nx x) {r : Option Nat} (hg : W1.grownBy wr r) (hne : r ≠ some W.heap.size) :
  wr.cell? ⟨W.heap.size, 0, none⟩ = some (.string ⟨#[]⟩) ∧ wr.cell? ⟨W.heap.size, 1, none⟩ = some (.int .i64 x) ∧ wr.cell? ⟨W.heap.size, 2, none⟩ = some (.int .i64 0) ∧ wr.cell? ⟨W.heap.size, 3, none⟩ = some (.int .i64 0) ∧ wr.cell? ⟨W.heap.size, 4, none⟩ = some (.string ⟨#[]⟩) :=
 mark_cells (by rw [hg.block _ h.size (fun e => hne e.symm)]; exact h.mrk)
structure Mid2 (W w : World) (B lo hi : Nat) (vs vm : Value) (xs : List Value) (rm : Value) (es : List Ent) (nx : Nat) (x : Int) : Prop where
 box : w.heap[B]? = some (.cells #[.slice none 0 0, vs, vm, .slice none 0 0, .slice none 0 0, .slice none 0 0, .slice none 0 0, .slice none 0 0, .slice none 0 0, .int .i64 ((nx + 1 : Nat) : Int)] 97 (0, 0))
 mrk : w.heap[W.heap.size]? = some (.cells (markO x) 71 (0, 0))
 rs : w.ownsRow (B + 1) 25 1 vs xs.length xs
 rm : w.ownsRow (B + 1) 3 1 rm es.length (es.map fun e => Value.int .i64 e.x)
 ent : ∀ e ∈ es, MarkSl w e.v e.n e.x ∧ e.n ≤ 64 ∧ (∀ k, e.v.ownBlock = some k → k < lo ∨ hi ≤ k)
theorem Mid.at {W W1 w : World} {B lo mid hi n : Nat} {rs rm l : Value} {xs : List Value} {es : List Ent} {nx : Nat} {x : Int} (h : Mid W W1 B lo hi rs rm es nx x) (hl : W1.ownsRow lo 71 5 l n xs) (hm : ∀ k, l.ownBlock = some k → k < mid) (hmh : mid ≤ hi) (hhi : hi ≤ W.heap.size) (hg : W1.grownBy w l.ownBlock) :
  Mid2 W w B lo hi rs rm (es.map (·.v)) rm es nx x := by
 have hne : ∀ (k : Nat) (cur : Array Value) (t : Nat), W1.heap[k]? = some (Obj.cells cur t (0, 0)) → t ≠ 71 → w.heap[k]? = W1.heap[k]? := fun k cur t hk ht =>
  hg.block k (Array.getElem?_eq_some_iff.1 hk).1 (own_far hl hk (Ne.symm ht))
 refine ⟨(hne _ _ _ h.box (by decide)).trans h.box, (hg.block _ h.size (fun e => by have := hm _ e.symm; omega)).trans h.mrk, ?_, h.rm.kept hg (own_apart h.rm hl (by decide)), fun e he => ?_⟩
 ·have := h.rs.kept hg (own_apart h.rs hl (by decide))
  rw [List.length_map]; exact this
 ·obtain ⟨h1, h2, h3⟩ := h.ent e he
  refine ⟨h1.kept fun k cur hv hk => hg.block k (Array.getElem?_eq_some_iff.1 hk).1 fun e => ?_, h2, h3⟩
  have := hm k e.symm
  have := (hl.lt k e.symm).1
  rcases h3 k hv with h | h <;> omega
theorem Mid2.cells {W w : World} {B lo hi : Nat} {vs vm rm : Value} {xs : List Value} {es : List Ent} {nx : Nat} {x : Int} (h : Mid2 W w B lo hi vs vm xs rm es nx x) :
  w.cell? ⟨B, 1, none⟩ = some vs ∧ w.cell? ⟨B, 2, none⟩ = some vm ∧ ∀ k, w.frozen? ⟨B, k, none⟩ = false := by
 refine ⟨?_, ?_, fun k => frozen_of_row w B k _ 97 h.box⟩ <;> (rw [cell_blk h.box]; rfl)
theorem step_append_two {P : Program} (w : World) {ops : Array Oper} {o : Oper} {a : Act} {K : Act → World → Prop} {Q : Exit → Act → World → Prop} {E : Prop} (hgd : o.guard = none) (s x : Operand) (t : TypeId)
  (ho : o.op = .call { callee := .builtin .append, args := #[s, x], argTypes := #[t, t] })
  (base : Nat) (e : TypeId) (i : TypeInfo) (z : Value) (size bytes : Nat) (ht : P.underlying t = some (.slice e)) (hi : P.info? e = some i) (hz : i.zero = some z)
  (hsize : i.size = size) (hby : i.bytes = bytes) (hzs : z.cells.size = size)
  (v : Value) (n : Nat) (xs : List Value) (hs : a.eval s = v) (hown : w.ownsRow base e size v n xs)
  (ad : Addr) (m c : Nat) (news : List Value) (hx : a.eval x = .slice (some ad) m c) (hl : news.length = m * size) (hnews : ∀ j u, news[j]? = some u → w.cell? (ad.add j) = some u) (h1 : ∀ u ∈ news, u.oneCell' = true)
  (hm : 0 < m) (h63 : n + m ≤ maxLen) (hbytes : (n + m) * bytes ≤ 140737488355328) (hbase : base ≤ w.heap.size)
  (h : ∀ g cap w', w'.ownsRow base e size (.slice (some ⟨g, 0, none⟩) (n + m) cap) (n + m) (xs ++ news) → w'.ownsRow base e size v n xs → Lies w w' v g → K (a.put o.dst (.slice (some ⟨g, 0, none⟩) (n + m) cap)) w') :
  if Region.wanted o (yielded ops a.tmps) = true then Oper.wp P o a w K Q else E := by
 have hw : Region.wanted o (yielded ops a.tmps) = true := by simp [Region.wanted, hgd]
 rw [if_pos hw]
 exact wp_append_two w s x t ho base e i z size bytes ht hi hz hsize hby hzs v n xs hs hown ad m c news hx hl hnews h1 hm h63 hbytes hbase h
theorem Mid2.done {W w w' : World} {B lo mid hi gm cap : Nat} {vs rm : Value} {xs ys : List Value} {es es' : List Ent} {nx : Nat} {x : Int} (h : Mid2 W w B lo hi vs rm xs rm es nx x) (hL : w.grownBy w' rm.ownBlock) {N : Nat}
  (hr : w'.ownsRow (B + 1) 3 1 (.slice (some ⟨gm, 0, none⟩) N cap) N ys) (hxs : xs = (es ++ es').map (·.v)) (hys : ys = (es ++ es').map fun e => Value.int .i64 e.x) (hlm : lo ≤ mid)
  (hent : ∀ e ∈ es', MarkSl w e.v e.n e.x ∧ e.n ≤ 64 ∧ (∀ k, e.v.ownBlock = some k → k < mid ∨ hi ≤ k)) : Bk (w'.setCell ⟨B, 2, none⟩ (.slice (some ⟨gm, 0, none⟩) N cap)) B mid hi vs (.slice (some ⟨gm, 0, none⟩) N cap) (es ++ es') (nx + 1) := by
 have hN : N = (es ++ es').length := by have := hr.1; rw [hys, List.length_map] at this; omega
 have hfar : ∀ (k : Nat) (cur : Array Value) (t : Nat), w.heap[k]? = some (Obj.cells cur t (0, 0)) → t ≠ 3 → w'.heap[k]? = w.heap[k]? := fun k cur t hk ht =>
  hL.block k (Array.getElem?_eq_some_iff.1 hk).1 (own_far h.rm hk (Ne.symm ht))
 have hfar2 : ∀ (k : Nat) (cur : Array Value) (t : Nat), w.heap[k]? = some (Obj.cells cur t (0, 0)) → t ≠ 3 → t ≠ 97 → (w'.setCell ⟨B, 2, none⟩ (.slice (some ⟨gm, 0, none⟩) N cap)).heap[k]? = w.heap[k]? := fun k cur t hk ht ht' => by
  rw [Below.heap_setCell w' ⟨B, 2, none⟩ _ k (kind_ne hk h.box ht'), hfar k cur t hk ht]
 have hm : ∀ e : Ent, MarkSl w e.v e.n e.x → MarkSl (w'.setCell ⟨B, 2, none⟩ (.slice (some ⟨gm, 0, none⟩) N cap)) e.v e.n e.x := fun e h1 => h1.kept fun k cur _ hk => hfar2 k cur 71 hk (by decide) (by decide)
 refine ⟨?_, ?_, ?_, fun e he => ?_⟩
 ·rw [heap_setCell_same w' B 2 _ 97 _ ((hfar _ _ _ h.box (by decide)).trans h.box)]
  simp
 ·rw [← List.length_map (f := (·.v)), ← hxs]
  refine ⟨h.rs.1, ?_⟩
  rcases h.rs.2 with hn | ⟨g, cap2, cur, hv, hb, hgg, rest⟩
  ·exact .inl hn
  ·exact .inr ⟨g, cap2, cur, hv, hb, (hfar2 _ _ _ hgg (by decide) (by decide)).trans hgg, rest⟩
 ·rw [← hN, ← hys]; exact ownsRow_setCell_below hr (a := ⟨B, 2, none⟩) (Nat.lt_succ_self B) _
 ·rcases List.mem_append.1 he with h0 | h0
  ·obtain ⟨h1, h2, h3⟩ := h.ent e h0
   exact ⟨hm e h1, h2, fun k hk => by rcases h3 k hk with h | h <;> omega⟩
  ·obtain ⟨h1, h2, h3⟩ := hent e h0
   exact ⟨hm e h1, h2, h3⟩
theorem Mid2.kept {W w w' : World} {B lo hi : Nat} {vs rm : Value} {xs : List Value} {es : List Ent} {nx : Nat} {x : Int} (h : Mid2 W w B lo hi vs rm xs rm es nx x) (hL : w.grownBy w' rm.ownBlock) :
  w'.cell? ⟨W.heap.size, 1, none⟩ = some (.int .i64 x) ∧ w'.cell? ⟨B, 2, none⟩ = some rm ∧ w'.frozen? ⟨B, 2, none⟩ = false := by
 have hfar : ∀ (k : Nat) (cur : Array Value) (t : Nat), w.heap[k]? = some (Obj.cells cur t (0, 0)) → t ≠ 3 → w'.heap[k]? = w.heap[k]? := fun k cur t hk ht =>
  hL.block k (Array.getElem?_eq_some_iff.1 hk).1 (own_far h.rm hk (Ne.symm ht))
 refine ⟨?_, ?_, ?_⟩
 ·rw [cell_blk ((hfar _ _ _ h.mrk (by decide)).trans h.mrk)]; rfl
 ·rw [cell_blk ((hfar _ _ _ h.box (by decide)).trans h.box)]; rfl
 ·exact frozen_of_row w' B 2 _ 97 ((hfar _ _ _ h.box (by decide)).trans h.box)
def Fr (B : Nat) (l : Value) (W w : World) : Prop := Below B W w ∧ OKept l W w
theorem Fr.own {B : Nat} {l v : Value} {W w w' : World} {e s n : Nat} {xs : List Value} (h : Fr B l W w) (ho : w.ownsRow (B + 1) e s v n xs) (he : e = 25 ∨ e = 3) (hg : w.grownBy w' v.ownBlock) (hB : B ≤ w.heap.size) : Fr B l W w' := by
 refine ⟨h.1.grown hg hB fun k hk => by have := (ho.lt k hk).1; omega, fun k cur t h1 h2 h3 hk hl => ?_⟩
 have hw := (h.2 k cur t h1 h2 h3 hk hl)
 rw [← hw]
 rw [hk] at hw
 exact hg.block k (Array.getElem?_eq_some_iff.1 hw).1 (own_far ho hw (by rcases he with rfl | rfl; exact Ne.symm h2; exact Ne.symm h3))
theorem Fr.box {B : Nat} {l : Value} {W w : World} {cs : Array Value} (h : Fr B l W w) (hb : W.heap[B]? = some (.cells cs 97 (0, 0))) (i : Nat) (u : Value) : Fr B l W (w.setCell ⟨B, i, none⟩ u) :=
 ⟨h.1.setCell (Nat.le_refl B) u, fun k cur t h1 h2 h3 hk hl => by rw [Below.heap_setCell w ⟨B, i, none⟩ u k (kind_ne hk hb h1)]; exact h.2 k cur t h1 h2 h3 hk hl⟩
theorem Fr.start {W W1 w : World} {B lo hi n : Nat} {rs rm l : Value} {xs : List Value} {es : List Ent} {nx : Nat} {x : Int} (h : Mid W W1 B lo hi rs rm es nx x) {cs : Array Value} (hb : W.heap[B]? = some (.cells cs 97 (0, 0))) (hl : W1.ownsRow lo 71 5 l n xs) (hB : B < lo) (hg : W1.grownBy w l.ownBlock) : Fr B l W w := by
 have hlt := (Array.getElem?_eq_some_iff.1 hb).1
 have h1 : Below B W W1 := ⟨h.os, h.tape, h.output, Nat.le_of_lt h.size, fun k hk => h.low k (by omega) (by omega)⟩
 refine ⟨h1.grown hg (by have := h.size; omega) fun k hk => by have := (hl.lt k hk).1; omega, fun k cur t t1 t2 t3 hk hn => ?_⟩
 have hkl := (Array.getElem?_eq_some_iff.1 hk).1
 rw [hg.block k (by have := h.size; omega) (fun e => hn e.symm), h.low k hkl (kind_ne hk hb t1)]
end Go.Proofs.YtefdokkadckbbaaGreatDoor
end
section
namespace Go.Proofs.YtefdokkadckbbaaGreatDoor
open Go.RowKit
set_option maxRecDepth 100000
structure Keeps (F : Nat → Prop) (W W' : World) : Prop where
 os : W'.os = W.os
 tape : W'.tape = W.tape
 output : W'.output = W.output
 size : W.heap.size ≤ W'.heap.size
 block : ∀ k, k < W.heap.size → ¬ F k → W'.heap[k]? = W.heap[k]?
section
variable {F G : Nat → Prop} {X Y Z W W' : World}
theorem Keeps.refl (F : Nat → Prop) (W : World) : Keeps F W W := ⟨rfl, rfl, rfl, Nat.le_refl _, fun _ _ _ => rfl⟩
theorem keeps_of_below (h : Below W.heap.size W W') : Keeps F W W' := ⟨h.os, h.tape, h.output, h.size, fun k hk _ => h.block k hk⟩
theorem keeps_of_kept {L : List Nat} (h : Kept L W W') (hL : ∀ k ∈ L, F k) : Keeps F W W' := ⟨h.os, h.tape, h.output, h.size, fun k hk hn => h.block k hk fun hm => hn (hL k hm)⟩
theorem keeps_of_grown {r : Option Nat} (h : W.grownBy W' r) (hr : ∀ k, r = some k → F k) : Keeps F W W' := ⟨h.os, h.tape, h.output, h.size, fun k hk hn => h.block k hk fun e => hn (hr k e.symm)⟩
theorem Keeps.mono (h : Keeps F X Y) (hl : ∀ k, F k → G k) : Keeps G X Y := ⟨h.os, h.tape, h.output, h.size, fun k hk hn => h.block k hk fun hm => hn (hl k hm)⟩
theorem Keeps.then (h : Keeps F X Y) (k : Keeps G Y Z) (hG : ∀ j, G j → F j ∨ X.heap.size ≤ j) : Keeps F X Z :=
 ⟨k.os.trans h.os, k.tape.trans h.tape, k.output.trans h.output, Nat.le_trans h.size k.size, fun i hi hn => (k.block i (Nat.lt_of_lt_of_le hi h.size) fun hg => by rcases hG i hg with h | h; exact hn h; omega).trans (h.block i hi hn)⟩
theorem Keeps.trans (h : Keeps F X Y) (k : Keeps F Y Z) : Keeps F X Z := h.then k fun _ hj => .inl hj
theorem Keeps.below (h : Keeps F X Y) (k : Below Y.heap.size Y Z) : Keeps F X Z := h.trans (keeps_of_below k)
theorem Keeps.set (h : Keeps F W W') {b : Nat} (hb : F b ∨ W.heap.size ≤ b) (o : Nat) (u : Value) : Keeps F W (W'.setCell ⟨b, o, none⟩ u) :=
 ⟨h.os, h.tape, h.output, by simp; exact h.size, fun k hk hn => (Below.heap_setCell W' ⟨b, o, none⟩ u k (by rintro rfl; rcases hb with hb | hb; exact hn hb; exact absurd hk (Nat.not_lt.2 hb))).trans (h.block k hk hn)⟩
theorem Keeps.alloc (h : Keeps F W W') (o : Obj) : Keeps F W (W'.alloc o) :=
 ⟨h.os, h.tape, h.output, by simp; have := h.size; omega, fun k hk hn => (Below.heap_alloc W' o k (Nat.lt_of_lt_of_le hk h.size)).trans (h.block k hk hn)⟩
theorem Keeps.drew (h : Keeps F W W') : Keeps F W W'.drew := ⟨h.os, h.tape, h.output, h.size, h.block⟩
theorem Keeps.grown {r : Option Nat} (h : Keeps F X Y) (k : Y.grownBy Z r) (hr : ∀ j, r = some j → F j ∨ X.heap.size ≤ j) : Keeps F X Z :=
 h.then (keeps_of_grown (F := fun j => r = some j) k fun _ e => e) hr
theorem Keeps.good (h : Keeps F X Y) (hG : Good X) (h0 : ¬ F 0) : Good Y := by
 obtain ⟨h1, m, hm⟩ := hG
 exact ⟨Nat.lt_of_lt_of_le h1 h.size, m, (World.cell?_of_block (w := X) (a := ⟨0, 0, none⟩) (h.block 0 h1 h0)).trans hm⟩
end
theorem own_same {w w' : World} {base e size n : Nat} {v : Value} {xs : List Value} (h : w.ownsRow base e size v n xs) (hk : ∀ k, v.ownBlock = some k → w'.heap[k]? = w.heap[k]?) : w'.ownsRow base e size v n xs := by
 refine ⟨h.1, ?_⟩
 rcases h.2 with hn | ⟨g, cap, cur, rfl, hb, hg, r⟩
 ·exact .inl hn
 ·exact .inr ⟨g, cap, cur, rfl, hb, (hk g rfl).trans hg, r⟩
theorem own_low {w : World} {base base' e size n : Nat} {v : Value} {xs : List Value} (h : w.ownsRow base e size v n xs) (hb : base' ≤ base) : w.ownsRow base' e size v n xs := by
 refine ⟨h.1, ?_⟩
 rcases h.2 with hn | ⟨g, cap, cur, rfl, hbg, r⟩
 ·exact .inl hn
 ·exact .inr ⟨g, cap, cur, rfl, Nat.le_trans hb hbg, r⟩
end Go.Proofs.YtefdokkadckbbaaGreatDoor
end
section
namespace Go.Proofs.YtefdokkadckbbaaGreatDoor
open Go.RowKit
set_option maxRecDepth 100000
structure Tk where
 num : Int
 id : Int
 nm : ByteArray
 ty : Int
 cnt : Int → Int
 sends : Int
 at_ : Int
structure Rs where
 hs : List Int
 en : Int
 tr : Int
 pa : Int
 mx : Int
 now : Int
 nid : Int
 asked : Int
 sent : List (Int × ByteArray)
 replies : List (Int × ByteArray)
 tasks : List Tk
def qB (id : Int) (nm : ByteArray) (ty : Int) : ByteArray := encS ⟨id, false, 0, nm, ty, [], [], []⟩
def rB (id code : Int) (nm : ByteArray) (ty : Int) : ByteArray := encS ⟨id, true, code, nm, ty, [], [], []⟩
def nextS (hs : List Int) (tr : Int) (t : Tk) : Option Int := if 16 ≤ t.sends then none else hs.find? (fun a => decide (t.cnt a < tr))
def triedS (now : Int) (t : Tk) (a : Int) : Tk := { t with cnt := bumped t.cnt a, sends := t.sends + 1, at_ := now }
def workS (s : Rs) (t : Tk) : Rs × List Tk :=
 match nextS s.hs s.tr t with
 | some a => ({ s with nid := (s.nid + 1) % 65536, sent := s.sent ++ [(a, qB s.nid t.nm t.ty)] }, [triedS s.now t a])
 | none => ({ s with replies := s.replies ++ [(t.num, rB t.id 2 t.nm t.ty)] }, [])
def askOk : Option Msg → Option Msg
 | some m => if m.code = 0 ∧ m.answer = [] ∧ m.servers = [] ∧ m.more = [] ∧ 1 ≤ m.ty ∧ m.ty ≤ 3 then some m else none
 | none => none
def newTk (num : Int) (m : Msg) : Tk := ⟨num, m.id, m.name, m.ty, fun _ => 0, 0, 0⟩
def askS (s : Rs) (b : ByteArray) (id : Int) : Rs :=
 match askOk (msgS (tl b)) with
 | some m => let r := workS { s with asked := s.asked + 1 } (newTk s.asked m); { r.1 with tasks := s.tasks ++ r.2 }
 | none => { s with asked := s.asked + 1, replies := s.replies ++ [(s.asked, rB id 1 ⟨#[]⟩ 0)] }
def tickGo : Rs → List Tk → Rs × List Tk
 | s, [] => (s, [])
 | s, t :: r => if s.pa ≤ s.now - t.at_ then ((tickGo (workS s t).1 r).1, (workS s t).2 ++ (tickGo (workS s t).1 r).2) else ((tickGo s r).1, t :: (tickGo s r).2)
def tickS (s : Rs) : Rs := { (tickGo { s with now := s.now + 1 } s.tasks).1 with tasks := (tickGo { s with now := s.now + 1 } s.tasks).2 }
structure TkOk (t : Tk) (k : Nat) : Prop where
 num : 0 ≤ t.num ∧ t.num ≤ k
 id : 0 ≤ t.id ∧ t.id ≤ 65535
 nm : nameOk (tl t.nm) = true
 ty : 1 ≤ t.ty ∧ t.ty ≤ 3
 cnt : ∀ a, 0 ≤ t.cnt a ∧ t.cnt a ≤ 3
 sends : 0 ≤ t.sends ∧ t.sends ≤ 16
 at_ : 0 ≤ t.at_ ∧ t.at_ ≤ k
structure RsOk (s : Rs) (k n : Nat) : Prop where
 hs : 1 ≤ s.hs.length ∧ s.hs.length ≤ 3
 hint : ∀ a ∈ s.hs, 0 ≤ a ∧ a ≤ 255
 en : 4 ≤ s.en ∧ s.en ≤ 64
 tr : 1 ≤ s.tr ∧ s.tr ≤ 3
 pa : 1 ≤ s.pa ∧ s.pa ≤ 20
 mx : 1 ≤ s.mx ∧ s.mx ≤ 1000
 now : 0 ≤ s.now ∧ s.now ≤ k
 nid : 0 ≤ s.nid ∧ s.nid ≤ 65535
 asked : 0 ≤ s.asked ∧ s.asked ≤ k
 sent : s.sent.length ≤ n
 replies : s.replies.length ≤ n
 tasks : s.tasks.length ≤ 8
 task : ∀ t ∈ s.tasks, TkOk t k
theorem TkOk.mono {t : Tk} {k k' : Nat} (h : TkOk t k) (hk : k ≤ k') : TkOk t k' := ⟨⟨h.num.1, by have := h.num.2; omega⟩, h.id, h.nm, h.ty, h.cnt, h.sends, ⟨h.at_.1, by have := h.at_.2; omega⟩⟩
theorem RsOk.mono {s : Rs} {k k' n n' : Nat} (h : RsOk s k n) (hk : k ≤ k') (hn : n ≤ n') : RsOk s k' n' :=
 ⟨h.hs, h.hint, h.en, h.tr, h.pa, h.mx, ⟨h.now.1, by have := h.now.2; omega⟩, h.nid, ⟨h.asked.1, by have := h.asked.2; omega⟩, Nat.le_trans h.sent hn, Nat.le_trans h.replies hn, h.tasks, fun t ht => (h.task t ht).mono hk⟩
theorem next_some {hs : List Int} {tr : Int} {t : Tk} {a : Int} (h : nextS hs tr t = some a) : a ∈ hs ∧ t.cnt a < tr ∧ t.sends < 16 := by
 unfold nextS at h
 split at h
 ·cases h
 ·exact ⟨List.mem_of_find?_eq_some h, by simpa using List.find?_some h, by omega⟩
theorem tried_ok {s : Rs} {t : Tk} {k n : Nat} {a : Int} (h : RsOk s k n) (ht : TkOk t k) (ha : nextS s.hs s.tr t = some a) : TkOk (triedS s.now t a) k := by
 obtain ⟨h1, h2, h3⟩ := next_some ha
 refine ⟨ht.num, ht.id, ht.nm, ht.ty, fun b => ?_, ⟨by have := ht.sends.1; show 0 ≤ t.sends + 1; omega, by show t.sends + 1 ≤ 16; omega⟩, h.now⟩
 show 0 ≤ bumped t.cnt a b ∧ bumped t.cnt a b ≤ 3
 unfold bumped
 split
 ·have := ht.cnt a; have := h.tr.2; omega
 ·exact ht.cnt b
theorem work_ok {s : Rs} {t : Tk} {k n : Nat} (h : RsOk s k n) (ht : TkOk t k) : RsOk (workS s t).1 k (n + 1) ∧ (∀ t' ∈ (workS s t).2, TkOk t' k) ∧ (workS s t).2.length ≤ 1 := by
 unfold workS
 cases hx : nextS s.hs s.tr t with
 | some a =>
  refine ⟨⟨h.hs, h.hint, h.en, h.tr, h.pa, h.mx, h.now, ?_, h.asked, ?_, Nat.le_succ_of_le h.replies, h.tasks, h.task⟩, fun t' ht' => ?_, Nat.le_refl _⟩
  ·show 0 ≤ (s.nid + 1) % 65536 ∧ (s.nid + 1) % 65536 ≤ 65535
   omega
  ·show (s.sent ++ [_]).length ≤ n + 1
   have := h.sent
   simp only [List.length_append, List.length_cons, List.length_nil]; omega
  ·simp only [List.mem_singleton] at ht'
   subst ht'
   exact tried_ok h ht hx
 | none =>
  refine ⟨⟨h.hs, h.hint, h.en, h.tr, h.pa, h.mx, h.now, h.nid, h.asked, Nat.le_succ_of_le h.sent, ?_, h.tasks, h.task⟩, fun t' ht' => (by cases ht'), Nat.zero_le _⟩
  show (s.replies ++ [_]).length ≤ n + 1
  have := h.replies
  simp only [List.length_append, List.length_cons, List.length_nil]; omega
theorem work_same (s : Rs) (t : Tk) : (workS s t).1.hs = s.hs ∧ (workS s t).1.tr = s.tr ∧ (workS s t).1.pa = s.pa ∧ (workS s t).1.now = s.now ∧ (workS s t).1.tasks = s.tasks := by
 unfold workS
 cases nextS s.hs s.tr t <;> exact ⟨rfl, rfl, rfl, rfl, rfl⟩
theorem tickGo_ok : ∀ (l : List Tk) (s : Rs) (k n : Nat), RsOk s k n → (∀ t ∈ l, TkOk t k) → RsOk (tickGo s l).1 k (n + l.length) ∧ (∀ t' ∈ (tickGo s l).2, TkOk t' k) ∧ (tickGo s l).2.length ≤ l.length
 | [], s, k, n, h, _ => ⟨h, fun t' ht' => (by cases ht'), Nat.le_refl _⟩
 | t :: r, s, k, n, h, hl => by
  unfold tickGo
  split
  ·obtain ⟨h1, h2, h3⟩ := work_ok h (hl t (by simp))
   obtain ⟨i1, i2, i3⟩ := tickGo_ok r _ k (n + 1) h1 fun t' ht' => hl t' (by simp [ht'])
   refine ⟨i1.mono (Nat.le_refl _) (by simp only [List.length_cons]; omega), fun t' ht' => ?_, by simp only [List.length_append, List.length_cons]; omega⟩
   rcases List.mem_append.1 ht' with h | h
   ·exact h2 t' h
   ·exact i2 t' h
  ·obtain ⟨i1, i2, i3⟩ := tickGo_ok r s k n h fun t' ht' => hl t' (by simp [ht'])
   refine ⟨i1.mono (Nat.le_refl _) (by simp only [List.length_cons]; omega), fun t' ht' => ?_, by simp only [List.length_cons]; omega⟩
   rcases List.mem_cons.1 ht' with rfl | h
   ·exact hl _ (by simp)
   ·exact i2 t' h
theorem tick_ok {s : Rs} {k n : Nat} (h : RsOk s k n) : RsOk (tickS s) (k + 1) (n + 8) := by
 have h0 : RsOk { s with now := s.now + 1 } (k + 1) n := ⟨h.hs, h.hint, h.en, h.tr, h.pa, h.mx, ⟨by have := h.now.1; show 0 ≤ s.now + 1; omega, by have := h.now.2; show s.now + 1 ≤ _; omega⟩, h.nid, ⟨h.asked.1, by have := h.asked.2; show s.asked ≤ _; omega⟩, h.sent, h.replies, h.tasks, fun t ht => (h.task t ht).mono (Nat.le_succ _)⟩
 obtain ⟨i1, i2, i3⟩ := tickGo_ok s.tasks _ (k + 1) n h0 fun t ht => (h.task t ht).mono (Nat.le_succ _)
 have := h.tasks
 have j := i1.mono (Nat.le_refl _) (n' := n + 8) (by omega)
 exact ⟨j.hs, j.hint, j.en, j.tr, j.pa, j.mx, j.now, j.nid, j.asked, j.sent, j.replies, Nat.le_trans i3 h.tasks, i2⟩
abbrev goalO (nm : ByteArray) (ty : Int) (m : Nat) : Obj := .cells #[.string nm, .string nm, .int .i64 ty, .slice none 0 0, .map (some m), .slice none 0 0] 243 (0, 0)
structure Tb where
 tb : Nat
 gb : Nat
 g : Nat
 m : Nat
structure PTk (W : World) (b : Tb) (t : Tk) : Prop where
 task : ∃ (aa as_ am : Option Addr) (ca cs cm gc : Nat) (wn : ByteArray) (wt : Int) (wz : ByteArray) (wi wa : Int), W.heap[b.tb]? = some (taskO t.num t.id false 0 t.nm t.ty (.slice aa 0 ca) (.slice as_ 0 cs) (.slice am 0 cm) (.slice (some ⟨b.gb, 0, none⟩) 1 gc) t.sends wn wt wz t.at_ wi wa)
 goals : ∃ cur : Array Value, W.heap[b.gb]? = some (.cells cur 197 (0, 0)) ∧ cur[0]? = some (.pointer (some ⟨b.g, 0, none⟩))
 goal : W.heap[b.g]? = some (goalO t.nm t.ty b.m)
 tries : Tries W b.m t.nm t.cnt
theorem PTk.same {W W' : World} {b : Tb} {t : Tk} (h : PTk W b t) (h1 : W'.heap[b.tb]? = W.heap[b.tb]?) (h2 : W'.heap[b.gb]? = W.heap[b.gb]?) (h3 : W'.heap[b.g]? = W.heap[b.g]?) (h4 : W'.heap[b.m]? = W.heap[b.m]?) : PTk W' b t := by
 obtain ⟨⟨aa, as_, am, ca, cs, cm, gc, wn, wt, wz, wi, wa, q1⟩, ⟨cur, q2, q3⟩, q4, q5⟩ := h
 exact ⟨⟨aa, as_, am, ca, cs, cm, gc, wn, wt, wz, wi, wa, h1.trans q1⟩, ⟨cur, h2.trans q2, q3⟩, h3.trans q4, q5.same h4⟩
def pcells (l : List (Int × ByteArray)) : List Value := (l.map fun p => [Value.int .i64 p.1, .string p.2]).flatten
structure PRc (W : World) (F : Nat → Prop) (x : Nat) (s : Rs) (vt : Value) : Prop where
 ex : ∃ (hb hc mp mm : Nat) (vs vr : Value), W.heap[x]? = some (.cells #[.slice (some ⟨hb, 0, none⟩) s.hs.length hc, .int .i64 s.en, .int .i64 s.tr, .int .i64 s.pa, .int .i64 s.mx, .pointer (some ⟨mp, 0, none⟩), .int .i64 s.now, .int .i64 s.nid, vt, .int .i64 s.asked, vs, vr] 125 (0, 0)) ∧
  (F hb ∧ s.hs.length ≤ hc ∧ ∃ cur : Array Value, W.heap[hb]? = some (.cells cur 3 (0, 0)) ∧ ∀ (j : Nat) (a : Int), s.hs[j]? = some a → cur[j]? = some (Value.int .i64 a)) ∧
  (F mp ∧ F mm ∧ (∃ room uses : Int, W.heap[mp]? = some (.cells #[.int .i64 room, .int .i64 uses, .map (some mm)] 194 (0, 0))) ∧ MapIs W Tryz.prog 208 mm (fun _ => none)) ∧
  (W.ownsRow 0 105 2 vs s.sent.length (pcells s.sent) ∧ ∀ k, vs.ownBlock = some k → F k) ∧
  (W.ownsRow 0 66 2 vr s.replies.length (pcells s.replies) ∧ ∀ k, vr.ownBlock = some k → F k)
 own : F x
 lt : ∀ k, F k → k < W.heap.size
 zero : ¬ F 0
structure PTs (W : World) (G : Nat → Prop) (vt : Value) (ts : List Tk) (bs : List Tb) : Prop where
 row : W.ownsRow 0 126 1 vt ts.length (bs.map fun b : Tb => Value.pointer (some ⟨b.tb, 0, none⟩))
 rowG : ∀ k, vt.ownBlock = some k → G k
 len : bs.length = ts.length
 task : ∀ (i : Nat) (b : Tb) (t : Tk), bs[i]? = some b → ts[i]? = some t → PTk W b t
 own : ∀ b ∈ bs, G b.tb ∧ G b.gb ∧ G b.g ∧ G b.m
 nodup : (bs.map (·.tb)).Nodup ∧ (bs.map (·.m)).Nodup
 lt : ∀ k, G k → k < W.heap.size
 zero : ¬ G 0
structure PRs (W : World) (F : Nat → Prop) (x : Nat) (s : Rs) : Prop where
 ex : ∃ (C G : Nat → Prop) (vt : Value) (bs : List Tb), PRc W C x s vt ∧ PTs W G vt s.tasks bs ∧ (∀ k, C k → ¬ G k) ∧ (∀ k, F k ↔ C k ∨ G k)
section
variable {W W' : World} {F G : Nat → Prop} {x : Nat} {s : Rs} {vt : Value}
theorem PRc.same (h : PRc W F x s vt) (hs : W.heap.size ≤ W'.heap.size) (hk : ∀ k, F k → W'.heap[k]? = W.heap[k]?) : PRc W' F x s vt := by
 obtain ⟨⟨hb, hc, mp, mm, vs, vr, h1, ⟨h2, h3, cur, h4, h5⟩, ⟨h6, h7, ⟨room, uses, h8⟩, h9⟩, ⟨h12, h13⟩, ⟨h14, h15⟩⟩, ho, hl, h0⟩ := h
 exact ⟨⟨hb, hc, mp, mm, vs, vr, (hk _ ho).trans h1, ⟨h2, h3, cur, (hk _ h2).trans h4, h5⟩, ⟨h6, h7, ⟨room, uses, (hk _ h6).trans h8⟩, h9.same (hk _ h7)⟩, ⟨own_same h12 fun k e => hk k (h13 k e), h13⟩, ⟨own_same h14 fun k e => hk k (h15 k e), h15⟩⟩, ho, fun k hf => Nat.lt_of_lt_of_le (hl k hf) hs, h0⟩
theorem PRc.keeps (h : PRc W F x s vt) (hK : Keeps G W W') (hd : ∀ k, F k → ¬ G k) : PRc W' F x s vt := h.same hK.size fun k hf => hK.block k (h.lt k hf) (hd k hf)
theorem PTs.same {ts : List Tk} {bs : List Tb} (h : PTs W G vt ts bs) (hs : W.heap.size ≤ W'.heap.size) (hk : ∀ k, G k → W'.heap[k]? = W.heap[k]?) : PTs W' G vt ts bs :=
 ⟨own_same h.row fun k e => hk k (h.rowG k e), h.rowG, h.len, fun i b t hb ht => (h.task i b t hb ht).same (hk _ (h.own b (List.mem_of_getElem? hb)).1) (hk _ (h.own b (List.mem_of_getElem? hb)).2.1) (hk _ (h.own b (List.mem_of_getElem? hb)).2.2.1) (hk _ (h.own b (List.mem_of_getElem? hb)).2.2.2), h.own, h.nodup, fun k hg => Nat.lt_of_lt_of_le (h.lt k hg) hs, h.zero⟩
theorem PRs.lt (h : PRs W F x s) : ∀ k, F k → k < W.heap.size := by
 obtain ⟨C, G, vt, bs, h1, h2, _, h4⟩ := h.ex
 intro k hk
 rcases (h4 k).1 hk with h | h
 ·exact h1.lt k h
 ·exact h2.lt k h
theorem PRs.zero (h : PRs W F x s) : ¬ F 0 := by
 obtain ⟨C, G, vt, bs, h1, h2, _, h4⟩ := h.ex
 intro hk
 rcases (h4 0).1 hk with h | h
 ·exact h1.zero h
 ·exact h2.zero h
theorem PRs.same (h : PRs W F x s) (hs : W.heap.size ≤ W'.heap.size) (hk : ∀ k, F k → W'.heap[k]? = W.heap[k]?) : PRs W' F x s := by
 obtain ⟨C, G, vt, bs, h1, h2, h3, h4⟩ := h.ex
 exact ⟨C, G, vt, bs, h1.same hs fun k hc => hk k ((h4 k).2 (.inl hc)), h2.same hs fun k hc => hk k ((h4 k).2 (.inr hc)), h3, h4⟩
theorem PRs.keeps (h : PRs W F x s) (hK : Keeps G W W') (hd : ∀ k, F k → ¬ G k) : PRs W' F x s := h.same hK.size fun k hf => hK.block k (h.lt k hf) (hd k hf)
end
end Go.Proofs.YtefdokkadckbbaaGreatDoor
end
section
namespace Go.Proofs.YtefdokkadckbbaaGreatDoor
open Go.RowKit
set_option maxRecDepth 100000
def icells (l : List Int) : List Value := l.map fun a => Value.int .i64 a
theorem icells_length (L : List Int) : (icells L).length = L.length * 1 := by simp [icells]
theorem icells_drop (L : List Int) (k : Nat) : icells (L.drop k) = (icells L).drop (k * 1) := by simp [icells, List.map_drop]
theorem icells_one (L : List Int) : ∀ u ∈ icells L, u.oneCell' = true := by
 intro u hu
 simp only [icells, List.mem_map] at hu
 obtain ⟨a, _, rfl⟩ := hu
 rfl
def hintsOk (hs : List Int) : Bool := decide (1 ≤ hs.length) && decide (hs.length ≤ 3) && hs.all fun a => decide (0 ≤ a) && decide (a ≤ 255)
def cfgOk (hs : List Int) (en tr pa mx : Int) : Bool := hintsOk hs && (decide (4 ≤ en) && decide (en ≤ 64)) && (decide (1 ≤ tr) && decide (tr ≤ 3)) && (decide (1 ≤ pa) && decide (pa ≤ 20)) && (decide (1 ≤ mx) && decide (mx ≤ 1000))
def newRs (hs : List Int) (en tr pa mx : Int) : Rs := ⟨hs, en, tr, pa, mx, 0, 1, 0, [], [], []⟩
end Go.Proofs.YtefdokkadckbbaaGreatDoor
end
section
namespace Go.Proofs.YtefdokkadckbbaaGreatDoor
open Go.RowKit
set_option maxRecDepth 100000
set_option maxHeartbeats 1000000 in
theorem oneByte_big (R : Nat) (s : ByteArray) (n : Nat) (b : UInt8) (w : World) (hr : Rd R s n w) (hs : s.size ≤ 1048576) (hb : (tl s)[n]? = some b) :
  Calls Tryz.prog 108 #[.pointer (some ⟨R, 0, none⟩)] w fun e w' => e = .returned (.int .i64 (b.toNat : Int)) ∧ Rd R s (n + 1) w' ∧ Only R w w' := by
 obtain ⟨c0, c1, cf⟩ := hr.cells
 have hlt : n < s.size := (List.getElem?_eq_some_iff.1 hb).1
 have hbe : s[n] = b := (List.getElem?_eq_some_iff.1 hb).2
 have hb8 := b.toNat_lt
 go_enter Tryz.func108, Tryz.ntmps108
 go_wp2
 go_region_held3 (fun w' => w'.cell? ⟨R, 0, none⟩ = some (.string s) ∧ w'.cell? ⟨R, 1, none⟩ = some (.int .i64 (n : Int))) (go_keep)
  (first
   | (go_at_call 137; refine (must_ok _).mono ?_; rintro e w' ⟨rfl, rfl⟩))
 go_wp2
 go_quiet (fail)
 go_wp2
 go_ret
 exact ⟨rfl, (hr.drewN _).set, ((Only.refl R w).drewN _).set _ _⟩
set_option maxHeartbeats 1000000 in
theorem twoBytes_big (R : Nat) (s : ByteArray) (n : Nat) (a b : UInt8) (w : World) (hr : Rd R s n w) (hs : s.size ≤ 1048576) (ha : (tl s)[n]? = some a) (hb : (tl s)[n + 1]? = some b) :
  Calls Tryz.prog 107 #[.pointer (some ⟨R, 0, none⟩)] w fun e w' => e = .returned (.int .i64 ((a.toNat : Int) + (b.toNat : Int) * 256)) ∧ Rd R s (n + 1 + 1) w' ∧ Only R w w' := by
 have h1 := a.toNat_lt
 have h2 := b.toNat_lt
 go_enter Tryz.func107, Tryz.ntmps107
 go_wp2_with fail
 refine (oneByte_big R s n a _ hr hs ha).mono ?_
 rintro e w1 ⟨rfl, r1, o1⟩
 go_wp2_with fail
 refine (oneByte_big R s (n + 1) b _ r1 hs hb).mono ?_
 rintro e w2 ⟨rfl, r2, o2⟩
 go_wp2
 go_ret
 exact ⟨rfl, r2, o1.trans o2⟩
def qidS (t : List UInt8) : Option Int :=
 match t with
 | a :: b :: c :: _ :: _ => if c = 113 then some ((a.toNat : Int) + (b.toNat : Int) * 256) else none
 | _ => none
theorem qid_short {t : List UInt8} (h : t.length < 4) : qidS t = none := by
 match t, h with
 | [], _ => rfl
 | [_], _ => rfl
 | [_, _], _ => rfl
 | [_, _, _], _ => rfl
 | _ :: _ :: _ :: _ :: _, h => simp at h; omega
theorem qid_long {t : List UInt8} (h : 4 ≤ t.length) : ∃ a b c : UInt8, t[0]? = some a ∧ t[1]? = some b ∧ t[2]? = some c ∧ qidS t = if c = 113 then some ((a.toNat : Int) + (b.toNat : Int) * 256) else none := by
 match t, h with
 | a :: b :: c :: d :: r, _ => exact ⟨a, b, c, rfl, rfl, rfl, rfl⟩
set_option maxHeartbeats 2000000 in
theorem questionID_any (s : ByteArray) (w : World) (hs : s.size ≤ 1048576) :
  Calls Tryz.prog 63 #[.string s] w fun e w' => e = .returned (.tuple #[.int .i64 ((qidS (tl s)).getD 0), .bool (qidS (tl s)).isSome]) ∧ Below w.heap.size w w' := by
 by_cases hl : s.size < 4
 ·rw [qid_short (by rw [tl_length]; exact hl)]
  go_enter Tryz.func63, Tryz.ntmps63
  go_wp2
  go_ret2
  exact ⟨rfl, Below.refl _ _⟩
 ·obtain ⟨a, b, c, ha, hb, hc, hq⟩ := qid_long (t := tl s) (by rw [tl_length]; omega)
  rw [hq]
  obtain ⟨W1, hW1⟩ : ∃ W1, w.alloc (.cells #[.string s, .int .i64 0] 188) = W1 := ⟨_, rfl⟩
  have r0 : Rd w.heap.size s 0 W1 := by rw [← hW1]; exact World.alloc_heap_new w _
  have hb1 : Below w.heap.size w W1 := by rw [← hW1]; exact (Below.refl _ _).alloc (Nat.le_refl _) _
  have HT : Hid (Calls Tryz.prog 107 #[.pointer (some ⟨w.heap.size, 0, none⟩)] W1 fun e w' => e = .returned (.int .i64 ((a.toNat : Int) + (b.toNat : Int) * 256)) ∧ Rd w.heap.size s (0 + 1 + 1) w' ∧ Only w.heap.size W1 w') := twoBytes_big _ s 0 a b W1 r0 hs ha hb
  have hz : W1.heap.size = w.heap.size + 1 := by rw [← hW1]; simp
  subst hW1
  have HO : ∀ w2 w3, Only w.heap.size (w.alloc (.cells #[.string s, .int .i64 0] 188)) w2 → Only w.heap.size w2 w3 → Below w.heap.size w w3 := fun w2 w3 o2 o3 => ⟨(o2.trans o3).os, (o2.trans o3).tape, (o2.trans o3).output, by have := (o2.trans o3).size; omega, fun k hk => ((o2.trans o3).block k (by omega) (by omega)).trans (hb1.block k hk)⟩
  have hc8 := c.toNat_lt
  have hge : ¬ s.size < 4 := hl
  by_cases h113 : c = 113
  ·rw [if_pos h113]
   have hcn : c.toNat = 113 := by rw [h113]; rfl
   go_enter Tryz.func63, Tryz.ntmps63
   go_wp2_with (first
    | (go_at_call 107; refine HT.out.mono ?_; rintro e w2 ⟨rfl, r2, o2⟩)
    | (go_at_call 108; refine (oneByte_big _ s _ c _ r2 hs hc).mono ?_; rw [hcn]; rintro e w3 ⟨rfl, r3, o3⟩))
   go_ret2
   exact ⟨rfl, HO _ _ o2 o3⟩
  ·rw [if_neg h113]
   have hcn : ¬ ((c.toNat : Int) = 113) := fun h => h113 (UInt8.toNat_inj.1 (by rw [show (113 : UInt8).toNat = 113 from rfl]; omega))
   go_enter Tryz.func63, Tryz.ntmps63
   go_wp2_with (first
    | (go_at_call 107; refine HT.out.mono ?_; rintro e w2 ⟨rfl, r2, o2⟩)
    | (go_at_call 108; refine (oneByte_big _ s _ c _ r2 hs hc).mono ?_; rintro e w3 ⟨rfl, r3, o3⟩))
   go_ret2
   exact ⟨rfl, HO _ _ o2 o3⟩
set_option maxHeartbeats 1000000 in
theorem hasRecords_any (id : Int) (rp : Bool) (code : Int) (nm : ByteArray) (ty : Int) (aa as_ am : Option Addr) (na ns nn ca cs cm : Nat) (w : World) (h : na ≤ 10 ∧ ns ≤ 10 ∧ nn ≤ 10) :
  Calls Tryz.prog 109 #[.agg #[.int .i64 id, .bool rp, .int .i64 code, .string nm, .int .i64 ty, .slice aa na ca, .slice as_ ns cs, .slice am nn cm]] w fun e w' => e = .returned (.bool (decide (0 < na + ns + nn))) ∧ Below w.heap.size w w' := by
 have h1 : IntKind.i64.wrap ((na : Int) + ns) = (na : Int) + ns := by rw [IntKind.wrap_i64]; omega
 have h2 : IntKind.i64.wrap ((na : Int) + ns + nn) = (na : Int) + ns + nn := by rw [IntKind.wrap_i64]; omega
 go_enter Tryz.func109, Tryz.ntmps109
 go_wp2
 go_ret
 refine ⟨?_, (Below.refl _ _).alloc (Nat.le_refl _) _⟩
 congr 2
 simp
 omega
theorem canBe_any (ty : Int) (w : World) : Calls Tryz.prog 110 #[.int .i64 ty] w fun e w' => e = .returned (.bool (decide (1 ≤ ty) && decide (ty ≤ 3))) ∧ w' = w := by
 go_enter Tryz.func110, Tryz.ntmps110
 go_wp2_with (go_at_call 106; refine (between_any _ _ _ _).mono ?_; rintro e w' ⟨rfl, rfl⟩)
 go_ret
 exact ⟨rfl, rfl⟩
end Go.Proofs.YtefdokkadckbbaaGreatDoor
end
