/- Append onto a row that keeps the old one; lists full of marks; the book of the lists that came out; ownRecords. -/
import Derived.Test.YtefdokkadckbbaaGreatDoorD3
import Derived.Deep.AppendLies
import Derived.Deep.RegionHeldLaw
namespace Go.Proofs.YtefdokkadckbbaaGreatDoor
open Go.RowKit
set_option maxRecDepth 100000

theorem grown_trans {a b c : World} {r : Option Nat} (h : a.grownBy b r) (k : b.grownBy c r) : a.grownBy c r :=
  ⟨k.os.trans h.os, k.tape.trans h.tape, k.output.trans h.output, Nat.le_trans h.size k.size, fun j hj hr => (k.block j (Nat.lt_of_lt_of_le hj h.size) hr).trans (h.block j hj hr)⟩
theorem grown_refl (a : World) (r : Option Nat) : a.grownBy a r := ⟨rfl, rfl, rfl, Nat.le_refl _, fun _ _ _ => rfl⟩
theorem grown_none {a b : World} {r : Option Nat} (h : a.grownBy b none) : a.grownBy b r := ⟨h.os, h.tape, h.output, h.size, fun k hk _ => h.block k hk (by simp)⟩
theorem grown_drew {a b : World} {r : Option Nat} (h : a.grownBy b r) : a.grownBy b.drew r := ⟨h.os, h.tape, h.output, h.size, h.block⟩

/-- Where the new row lies: in the old one's block, or in a new one with all others as they were. -/
def Lies (w w' : World) (v : Value) (g : Nat) : Prop := w.grownBy w' v.ownBlock ∧ (v.ownBlock = some g ∨ (w.heap.size ≤ g ∧ w.grownBy w' none)) ∧ g < w'.heap.size

theorem run_append_two {P : Program} (w : World) (base : Nat) (t ty e : TypeId) (i : TypeInfo) (z : Value) (size bytes : Nat) (ht : P.underlying t = some (.slice e)) (hi : P.info? e = some i) (hz : i.zero = some z)
    (hsize : i.size = size) (hby : i.bytes = bytes) (hzs : z.cells.size = size)
    (v : Value) (n : Nat) (xs : List Value) (hown : w.ownsRow base e size v n xs)
    (a : Addr) (m c : Nat) (news : List Value) (hl : news.length = m * size) (hnews : ∀ j u, news[j]? = some u → w.cell? (a.add j) = some u) (h1 : ∀ u ∈ news, u.oneCell' = true)
    (hm : 0 < m) (h63 : n + m ≤ maxLen) (hbytes : (n + m) * bytes ≤ 140737488355328) (hbase : base ≤ w.heap.size) :
    ∃ g cap w', (Builtin.append_ #[t, t] ty #[v, .slice (some a) m c]).run P w = .ok (.slice (some ⟨g, 0, none⟩) (n + m) cap) w' ∧
      w'.ownsRow base e size (.slice (some ⟨g, 0, none⟩) (n + m) cap) (n + m) (xs ++ news) ∧ w'.ownsRow base e size v n xs ∧ Lies w w' v g := by
  subst hsize
  subst hby
  have hsm : n + m ≤ 9223372036854775807 := by simp only [maxLen] at h63; omega
  have hlen : (xs ++ news).length = (n + m) * i.size := by rw [List.length_append, hown.1, hl, Nat.add_mul]
  have fresh : ∀ (old : Nat) (cs : Array Value), cs = xs.toArray ++ news.toArray ++ Builtin.zeroCells z.cells (grownCap w (n + m) old e - (n + m)) →
      (w.drew.alloc (.cells cs e)).ownsRow base e i.size (.slice (some ⟨w.heap.size, 0, none⟩) (n + m) (grownCap w (n + m) old e)) (n + m) (xs ++ news) ∧
      (w.drew.alloc (.cells cs e)).ownsRow base e i.size v n xs ∧ Lies w (w.drew.alloc (.cells cs e)) v w.heap.size := by
    intro old cs hcs
    have hge := grownCap_ge w (n + m) old e
    have hcm := grownCap_le_maxLen w (n + m) old e h63
    have hg : w.grownBy (w.drew.alloc (.cells cs e)) none := ⟨rfl, rfl, rfl, by simp, fun k hk _ => Below.heap_alloc w.drew _ k hk⟩
    refine ⟨⟨hlen, .inr ⟨w.heap.size, _, cs, rfl, hbase, Go.heap_alloc_new w.drew _, hge, hcm, ?_, ?_⟩⟩, hown.kept hg (by cases v.ownBlock <;> simp), grown_none hg, .inr ⟨Nat.le_refl _, hg⟩, by simp⟩
    · rw [hcs]
      simp only [Array.size_append, List.size_toArray, size_zeroCells, hzs, hown.1, hl, ← Nat.add_mul]
      congr 1
      omega
    · rw [hcs]
      simp only [Array.toList_append]
      rw [← hlen]
      exact List.take_left
  rcases hown.2 with ⟨rfl, rfl⟩ | ⟨g, cap, cur, rfl, hbg, hg, hnc, hcm, hcs, htake⟩
  · obtain rfl : xs = [] := List.eq_nil_of_length_eq_zero (by simpa using hown.1)
    have hr := run_append_nil (P := P) w t ty e i z ht hi hz a m c news hl hnews hm (by omega) (by have hb := hbytes; simp only [Nat.zero_add] at hb; omega)
    have hf := fresh 0 (news.toArray ++ Builtin.zeroCells z.cells (grownCap w m 0 e - m)) (by simp)
    simp only [Nat.zero_add] at hf ⊢
    exact ⟨_, _, _, hr, hf⟩
  · by_cases hroom : n + m ≤ cap
    · have hfit : n * i.size + news.length ≤ cur.size := by rw [hl, hcs, ← Nat.add_mul]; exact Nat.mul_le_mul_right _ hroom
      have hr := run_append_room (P := P) w t ty e i ht hi g n cap cur hg a m c news hl hnews h1 hroom hfit
      have hsz : (cur.toList.take (n * i.size) ++ news ++ cur.toList.drop (n * i.size + news.length)).toArray.size = cap * i.size := by
        simp only [List.size_toArray, List.length_append, List.length_take, List.length_drop, Array.length_toList]
        omega
      have hgr : w.grownBy (w.setRow g (cur.toList.take (n * i.size) ++ news ++ cur.toList.drop (n * i.size + news.length)).toArray) (some g) := ⟨rfl, rfl, rfl, by simp, fun k _ hk => setRow_other w g k _ (fun e => hk (by simp [e]))⟩
      refine ⟨g, cap, _, hr, ⟨hlen, .inr ⟨g, cap, _, rfl, hbg, setRow_heap w g cur _ e _ hg, hroom, hcm, hsz, ?_⟩⟩, ⟨hown.1, .inr ⟨g, cap, _, rfl, hbg, setRow_heap w g cur _ e _ hg, hnc, hcm, hsz, ?_⟩⟩, hgr, .inl rfl, ?_⟩
      · rw [htake, ← hlen]
        exact List.take_left
      · simp only [htake, List.append_assoc]
        rw [← hown.1]
        exact List.take_left
      · have := (Array.getElem?_eq_some_iff.1 hg).1
        simpa using this
    · have holds : ∀ j u, xs[j]? = some u → w.cell? ((⟨g, 0, none⟩ : Addr).add j) = some u := hown.cells (g := g) rfl
      have hr := run_append_grow (P := P) w t ty e i z ht hi hz ⟨g, 0, none⟩ n cap xs hown.1 holds a m c news hl hnews (by omega) (by omega) (growslice_fits (by omega) hbytes)
      exact ⟨_, _, _, hr, fresh cap _ rfl⟩

theorem wp_append_two {P : Program} (w : World) {o : Oper} {a : Act} {K : Act → World → Prop} {Q : Exit → Act → World → Prop} (s x : Operand) (t : TypeId)
    (ho : o.op = .call { callee := .builtin .append, args := #[s, x], argTypes := #[t, t] })
    (base : Nat) (e : TypeId) (i : TypeInfo) (z : Value) (size bytes : Nat) (ht : P.underlying t = some (.slice e)) (hi : P.info? e = some i) (hz : i.zero = some z)
    (hsize : i.size = size) (hby : i.bytes = bytes) (hzs : z.cells.size = size)
    (v : Value) (n : Nat) (xs : List Value) (hs : a.eval s = v) (hown : w.ownsRow base e size v n xs)
    (ad : Addr) (m c : Nat) (news : List Value) (hx : a.eval x = .slice (some ad) m c) (hl : news.length = m * size) (hnews : ∀ j u, news[j]? = some u → w.cell? (ad.add j) = some u) (h1 : ∀ u ∈ news, u.oneCell' = true)
    (hm : 0 < m) (h63 : n + m ≤ maxLen) (hbytes : (n + m) * bytes ≤ 140737488355328) (hbase : base ≤ w.heap.size)
    (h : ∀ g cap w', w'.ownsRow base e size (.slice (some ⟨g, 0, none⟩) (n + m) cap) (n + m) (xs ++ news) → w'.ownsRow base e size v n xs → Lies w w' v g → K (a.put o.dst (.slice (some ⟨g, 0, none⟩) (n + m) cap)) w') : o.wp P a w K Q := by
  obtain ⟨g, cap, w', hr, h2, h3, h4⟩ := run_append_two (P := P) w base t o.type e i z size bytes ht hi hz hsize hby hzs v n xs hown ad m c news hl hnews h1 hm h63 hbytes hbase
  unfold Oper.wp execOp
  simp only [ho, resolve, invoke, builtin, Sem.run_bind, Sem.run_pure, Result.andThen_ok, List.map_toArray, List.map_cons, List.map_nil, hs, hx, hr]
  exact h g cap w' h2 h3 h4

theorem wpList_append_two {P : Program} (w : World) {ops : Array Oper} {rest : List Oper} {o : Oper} {a : Act} {Q : Exit → Act → World → Prop} (hgd : o.guard = none) (s x : Operand) (t : TypeId)
    (ho : o.op = .call { callee := .builtin .append, args := #[s, x], argTypes := #[t, t] })
    (base : Nat) (e : TypeId) (i : TypeInfo) (z : Value) (size bytes : Nat) (ht : P.underlying t = some (.slice e)) (hi : P.info? e = some i) (hz : i.zero = some z)
    (hsize : i.size = size) (hby : i.bytes = bytes) (hzs : z.cells.size = size)
    (v : Value) (n : Nat) (xs : List Value) (hs : a.eval s = v) (hown : w.ownsRow base e size v n xs)
    (ad : Addr) (m c : Nat) (news : List Value) (hx : a.eval x = .slice (some ad) m c) (hl : news.length = m * size) (hnews : ∀ j u, news[j]? = some u → w.cell? (ad.add j) = some u) (h1 : ∀ u ∈ news, u.oneCell' = true)
    (hm : 0 < m) (h63 : n + m ≤ maxLen) (hbytes : (n + m) * bytes ≤ 140737488355328) (hbase : base ≤ w.heap.size)
    (h : ∀ g cap w', w'.ownsRow base e size (.slice (some ⟨g, 0, none⟩) (n + m) cap) (n + m) (xs ++ news) → w'.ownsRow base e size v n xs → Lies w w' v g → wpList P ops Q rest (a.put o.dst (.slice (some ⟨g, 0, none⟩) (n + m) cap)) w') : wpList P ops Q (o :: rest) a w :=
  wpList_plain hgd fun _ hK => wp_append_two w s x t ho base e i z size bytes ht hi hz hsize hby hzs v n xs hs hown ad m c news hx hl hnews h1 hm h63 hbytes hbase fun g cap w' h2 h3 h4 => hK _ _ (h g cap w' h2 h3 h4)

/-- A store of several cells into a row, saying what has grown. -/
theorem wpList_storeG {P : Program} {w : World} {ops : Array Oper} {rest : List Oper} {o : Oper} {a : Act} {Q : Exit → Act → World → Prop} (hgd : o.guard = none) (ty : TypeId) (x y : Operand) (ho : o.op = .store ty x y)
    (g off : Nat) (cells : Array Value) (hx : a.eval x = .pointer (some ⟨g, off, none⟩)) (hy : a.eval y = .agg cells)
    (cur : Array Value) (t : TypeId) (hg : w.heap[g]? = some (.cells cur t (0, 0))) (hfit : off + cells.size ≤ cur.size) (hi : (P.info? ty).map (·.size) = some cells.size) (h1 : ∀ v ∈ cells.toList, v.oneCell' = true)
    (h : ∀ w', w'.heap[g]? = some (.cells (splice cur.toList off cells.toList).toArray t (0, 0)) → w.grownBy w' (some g) → wpList P ops Q rest (a.put o.dst undef) w') :
    wpList P ops Q (o :: rest) a w := by
  refine wpList_plain hgd fun K hK => ?_
  have hst := run_storeCells_at P g off t cells.toList 0 cur w hg (by simpa using hfit) h1
  simp only [Nat.add_zero] at hst
  have hrun : (storeVar ty ⟨g, off, none⟩ (.agg cells)).run P w = .ok () (w.setRow g (splice cur.toList off cells.toList).toArray) := by
    cases hq : P.info? ty with
    | none => simp [hq] at hi
    | some i =>
      have hs : cells.size = i.size := by simp [hq] at hi; omega
      simp [storeVar, sizeOf, typeInfo, hq, Value.cells, hs, hst, splice]
  unfold Oper.wp execOp
  simp only [ho, hx, hy, Instr.storeAt, Instr.sureAddr, Sem.run_bind, Sem.run_pure, Result.andThen_ok, hrun]
  exact hK _ _ (h _ (setRow_heap w g cur _ t _ hg) ⟨rfl, rfl, rfl, by simp, fun k _ hk => setRow_other w g k _ (fun e => hk (by simp [e]))⟩)

/-- The mark. -/
def ownM (x : Int) : Rec := ⟨⟨#[]⟩, x, 0, 0, ⟨#[]⟩⟩
/-- n marks. -/
def marks (x : Int) (n : Nat) : List Value := rcells (List.replicate n (ownM x))
theorem marks_length (x : Int) (n : Nat) : (marks x n).length = n * 5 := by simp [marks, rcells_length]
theorem marks_add (x : Int) (n m : Nat) : marks x (n + m) = marks x n ++ marks x m := by
  unfold marks; rw [← rcells_append, List.replicate_append_replicate]
theorem marks_take (x : Int) {n m : Nat} (h : n ≤ m) : (marks x m).take (n * 5) = marks x n := by
  obtain ⟨k, rfl⟩ : ∃ k, m = n + k := ⟨m - n, by omega⟩
  rw [marks_add, ← marks_length x n]; exact List.take_left
theorem marks_one (x : Int) (n : Nat) : ∀ v ∈ marks x n, v.oneCell' = true := rcells_one _

/-- A list that reads n marks. -/
def MarkSl (W : World) (v : Value) (n : Nat) (x : Int) : Prop :=
  (v = .slice none 0 0 ∧ n = 0) ∨ ∃ g cap cur, v = .slice (some ⟨g, 0, none⟩) n cap ∧ W.heap[g]? = some (.cells cur 71 (0, 0)) ∧ cur.toList.take (n * 5) = marks x n
theorem MarkSl.own {W : World} {b : Nat} {v : Value} {n : Nat} {x : Int} (h : W.ownsRow b 71 5 v n (marks x n)) : MarkSl W v n x := by
  rcases h.2 with ⟨h1, h2⟩ | ⟨g, cap, cur, hv, _, hg, _, _, _, ht⟩
  · exact .inl ⟨h1, h2⟩
  · exact .inr ⟨g, cap, cur, hv, hg, ht⟩
theorem MarkSl.kept {W W' : World} {v : Value} {n : Nat} {x : Int} (h : MarkSl W v n x) (hk : ∀ k cur, v.ownBlock = some k → W.heap[k]? = some (.cells cur 71 (0, 0)) → W'.heap[k]? = W.heap[k]?) : MarkSl W' v n x := by
  rcases h with h | ⟨g, cap, cur, rfl, hg, ht⟩
  · exact .inl h
  · exact .inr ⟨g, cap, cur, rfl, (hk g cur rfl hg).trans hg, ht⟩
theorem MarkSl.app {W W' : World} {l v : Value} {n N g cap b : Nat} {x : Int} (h : MarkSl W v n x) (hl : Lies W W' l g) (hr : W'.ownsRow b 71 5 (.slice (some ⟨g, 0, none⟩) N cap) N (marks x N)) (hn : n ≤ N) : MarkSl W' v n x := by
  rcases h with h | ⟨g', cap', cur, rfl, hg, ht⟩
  · exact .inl h
  have hlt := (Array.getElem?_eq_some_iff.1 hg).1
  by_cases hb : l.ownBlock = some g'
  · rcases hl.2.1 with h1 | ⟨_, h2⟩
    · obtain rfl : g' = g := by rw [h1] at hb; simpa using hb.symm
      rcases hr.2 with ⟨h3, _⟩ | ⟨g2, cap2, cur2, hv2, _, hg2, _, _, _, ht2⟩
      · simp at h3
      · simp at hv2
        obtain ⟨rfl, _⟩ := hv2
        refine .inr ⟨g', cap', cur2, rfl, hg2, ?_⟩
        rw [← marks_take x hn, ← ht2, List.take_take, Nat.min_eq_left (Nat.mul_le_mul_right 5 hn)]
    · exact .inr ⟨g', cap', cur, rfl, (h2.block g' hlt (by simp)).trans hg, ht⟩
  · exact .inr ⟨g', cap', cur, rfl, (hl.1.block g' hlt (fun e => hb e.symm)).trans hg, ht⟩

/-- The first k records are marks. -/
def full (x : Int) (rs : List Rec) (k : Nat) : List Rec := List.replicate k (ownM x) ++ rs.drop k
theorem full_length (x : Int) (rs : List Rec) {k : Nat} (h : k ≤ rs.length) : (full x rs k).length = rs.length := by simp [full]; omega
theorem full_zero (x : Int) (rs : List Rec) : full x rs 0 = rs := by simp [full]
theorem full_all (x : Int) (rs : List Rec) : rcells (full x rs rs.length) = marks x rs.length := by simp [full, marks]
theorem full_step (x : Int) (rs : List Rec) {k : Nat} (h : k < rs.length) : splice (rcells (full x rs k)) (k * 5) (rc1 (ownM x)) = rcells (full x rs (k + 1)) := by
  have e0 : rs.drop k = rs[k] :: rs.drop (k + 1) := List.drop_eq_getElem_cons h
  have l1 : (rcells (List.replicate k (ownM x))).length = k * 5 := by simp [rcells_length]
  unfold full splice
  rw [e0, rcells_append, rcells_append, show rcells (rs[k] :: rs.drop (k + 1)) = rc1 rs[k] ++ rcells (rs.drop (k + 1)) from rfl, List.replicate_succ', rcells_append]
  rw [← l1, List.take_left, List.append_assoc]
  congr 1
  rw [show rcells [ownM x] = rc1 (ownM x) by simp [rcells]]
  congr 1
  rw [show (rcells (List.replicate k (ownM x))).length + (rc1 (ownM x)).length = (rcells (List.replicate k (ownM x)) ++ rc1 rs[k]).length by simp [rc1], ← List.append_assoc, List.drop_left]

theorem info39 : (Tryz.prog.info? 25).map (fun i => (i.zero, i.size, i.bytes)) = some (some (.slice none 0 0), 1, 24) := by kernel_rfl
theorem info3 : (Tryz.prog.info? 3).map (fun i => (i.zero, i.size, i.bytes)) = some (some (.int .i64 0), 1, 8) := by kernel_rfl
theorem u27 : Tryz.prog.underlying 91 = some (.slice 25) := by kernel_rfl
theorem u28 : Tryz.prog.underlying 28 = some (.slice 3) := by kernel_rfl

/-- A list of the book: its value, how many marks, which mark. -/
structure Ent where
  v : Value
  n : Nat
  x : Int

/-- The book, in block B: its lists read as their owner wrote them, and lie outside of lo .. hi. -/
structure Bk (W : World) (B lo hi : Nat) (rs rm : Value) (es : List Ent) (nx : Nat) : Prop where
  box : W.heap[B]? = some (.cells #[.slice none 0 0, rs, rm, .slice none 0 0, .slice none 0 0, .slice none 0 0, .slice none 0 0, .slice none 0 0, .slice none 0 0, .int .i64 (nx : Int)] 97 (0, 0))
  rs : W.ownsRow (B + 1) 25 1 rs es.length (es.map (·.v))
  rm : W.ownsRow (B + 1) 3 1 rm es.length (es.map fun e => Value.int .i64 e.x)
  ent : ∀ e ∈ es, MarkSl W e.v e.n e.x ∧ e.n ≤ 64 ∧ (∀ k, e.v.ownBlock = some k → k < lo ∨ hi ≤ k)

/-- What of other kinds stays as it was. -/
def OKept (l : Value) (W W' : World) : Prop := ∀ k cur t, t ≠ 97 → t ≠ 25 → t ≠ 3 → W.heap[k]? = some (.cells cur t (0, 0)) → l.ownBlock ≠ some k → W'.heap[k]? = W.heap[k]?

/-- A row's block, of its kind. -/
theorem own_blk {w : World} {base e size n : Nat} {v : Value} {xs : List Value} (h : w.ownsRow base e size v n xs) {k : Nat} (hk : v.ownBlock = some k) : ∃ cur, w.heap[k]? = some (.cells cur e (0, 0)) := by
  rcases h.2 with ⟨rfl, _⟩ | ⟨g, cap, cur, rfl, _, hg, _⟩
  · simp [Value.ownBlock] at hk
  · simp [Value.ownBlock] at hk
    subst hk; exact ⟨cur, hg⟩
theorem kind_ne {w : World} {k k' e e' : Nat} {c c' : Array Value} (h : w.heap[k]? = some (.cells c e (0, 0))) (h' : w.heap[k']? = some (.cells c' e' (0, 0))) (hne : e ≠ e') : k ≠ k' := by
  rintro rfl
  rw [h] at h'
  simp at h'
  exact hne h'.2
theorem own_far {w : World} {base e size n k e' : Nat} {v : Value} {xs : List Value} {c : Array Value} (h : w.ownsRow base e size v n xs) (hk : w.heap[k]? = some (.cells c e' (0, 0))) (hne : e ≠ e') : some k ≠ v.ownBlock := by
  intro hv
  obtain ⟨cur, hc⟩ := own_blk h hv.symm
  exact kind_ne hc hk hne rfl
theorem own_apart {w : World} {b1 e1 s1 n1 b2 e2 s2 n2 : Nat} {v1 v2 : Value} {x1 x2 : List Value} (h1 : w.ownsRow b1 e1 s1 v1 n1 x1) (h2 : w.ownsRow b2 e2 s2 v2 n2 x2) (hne : e1 ≠ e2) : v1.ownBlock = none ∨ v1.ownBlock ≠ v2.ownBlock := by
  cases hv : v1.ownBlock with
  | none => exact .inl rfl
  | some k =>
    obtain ⟨cur, hc⟩ := own_blk h1 hv
    exact .inr (own_far h2 hc (Ne.symm hne))

theorem take_splice {α : Type} (L cs : List α) (off N : Nat) (h : off + cs.length ≤ N) (hN : N ≤ L.length) : (splice L off cs).take N = splice (L.take N) off cs := by
  unfold splice
  have e1 : (L.take N).take off = L.take off := by rw [List.take_take, Nat.min_eq_left (by omega)]
  have e2 : (L.take N).drop (off + cs.length) = (L.drop (off + cs.length)).take (N - (off + cs.length)) := by rw [List.drop_take]
  rw [e1, e2, List.take_append, List.take_append, List.take_of_length_le (by simp; omega), List.take_of_length_le (l := cs) (by simp; omega)]
  congr 2
  congr 1
  simp
  omega

theorem own_store {w w' : World} {lo g cap n k : Nat} {x : Int} {recs : List Rec} (h : w.ownsRow lo 71 5 (.slice (some ⟨g, 0, none⟩) n cap) n (rcells (full x recs k))) (hn : n = recs.length) (hk : k < n) {cur : Array Value} (hc : w.heap[g]? = some (.cells cur 71 (0, 0)))
    (h' : w'.heap[g]? = some (.cells (splice cur.toList (k * 5) (rc1 (ownM x))).toArray 71 (0, 0))) : w'.ownsRow lo 71 5 (.slice (some ⟨g, 0, none⟩) n cap) n (rcells (full x recs (k + 1))) := by
  subst hn
  obtain ⟨h1, ⟨h2, _⟩ | ⟨g', cap', cur', hv, hlo, hg, hnc, hcm, hcs, ht⟩⟩ := h
  · cases h2
  simp at hv
  obtain ⟨rfl, rfl⟩ := hv
  rw [hc] at hg
  simp at hg
  subst hg
  have hlen : (k * 5) + (rc1 (ownM x)).length ≤ recs.length * 5 := by simp [rc1]; omega
  have hcl : recs.length * 5 ≤ cur.toList.length := by
    have e : cur.toList.length = cur.size := Array.length_toList
    rw [e, hcs]; exact Nat.mul_le_mul_right 5 hnc
  refine ⟨by rw [rcells_length, full_length x recs hk], .inr ⟨g, cap, _, rfl, hlo, h', hnc, hcm, ?_, ?_⟩⟩
  · rw [List.size_toArray, length_splice _ _ _ (by omega), Array.length_toList, hcs]
  · rw [List.toList_toArray, take_splice _ _ _ _ hlen hcl, ht, full_step x recs hk]

/-- The mark's block. -/
def markO (x : Int) : Array Value := #[.string ⟨#[]⟩, .int .i64 x, .int .i64 0, .int .i64 0, .string ⟨#[]⟩]
theorem mark_cells {w : World} {M : Nat} {x : Int} (h : w.heap[M]? = some (.cells (markO x) 71 (0, 0))) :
    w.cell? ⟨M, 0, none⟩ = some (.string ⟨#[]⟩) ∧ w.cell? ⟨M, 1, none⟩ = some (.int .i64 x) ∧ w.cell? ⟨M, 2, none⟩ = some (.int .i64 0) ∧ w.cell? ⟨M, 3, none⟩ = some (.int .i64 0) ∧ w.cell? ⟨M, 4, none⟩ = some (.string ⟨#[]⟩) := by
  refine ⟨?_, ?_, ?_, ?_, ?_⟩ <;> (rw [cell_blk h]; rfl)
theorem book_cells {W : World} {B lo hi : Nat} {rs rm : Value} {es : List Ent} {nx : Nat} (h : Bk W B lo hi rs rm es nx) :
    W.cell? ⟨B, 1, none⟩ = some rs ∧ W.cell? ⟨B, 2, none⟩ = some rm ∧ W.cell? ⟨B, 9, none⟩ = some (.int .i64 (nx : Int)) ∧ ∀ k, W.frozen? ⟨B, k, none⟩ = false := by
  refine ⟨?_, ?_, ?_, fun k => frozen_of_row W B k _ 97 h.box⟩ <;> (rw [cell_blk h.box]; rfl)

/-- What holds while the marks are written: all but the list's own block is as it was at W1. -/
structure Mid (W W1 : World) (B lo hi : Nat) (rs rm : Value) (es : List Ent) (nx : Nat) (x : Int) : Prop where
  box : W1.heap[B]? = some (.cells #[.slice none 0 0, rs, rm, .slice none 0 0, .slice none 0 0, .slice none 0 0, .slice none 0 0, .slice none 0 0, .slice none 0 0, .int .i64 ((nx + 1 : Nat) : Int)] 97 (0, 0))
  mrk : W1.heap[W.heap.size]? = some (.cells (markO x) 71 (0, 0))
  rs : W1.ownsRow (B + 1) 25 1 rs es.length (es.map (·.v))
  rm : W1.ownsRow (B + 1) 3 1 rm es.length (es.map fun e => Value.int .i64 e.x)
  ent : ∀ e ∈ es, MarkSl W1 e.v e.n e.x ∧ e.n ≤ 64 ∧ (∀ k, e.v.ownBlock = some k → k < lo ∨ hi ≤ k)
  size : W.heap.size < W1.heap.size
  low : ∀ k, k < W.heap.size → k ≠ B → W1.heap[k]? = W.heap[k]?
  os : W1.os = W.os
  tape : W1.tape = W.tape
  output : W1.output = W.output

theorem mid_start {W : World} {B lo hi : Nat} {rs rm : Value} {es : List Ent} {nx : Nat} (hb : Bk W B lo hi rs rm es nx) :
    Mid W ((W.setCell ⟨B, 9, none⟩ (.int .i64 ((nx : Int) + 1))).alloc (.cells #[.string ⟨#[]⟩, .int .i64 (-((nx : Int) + 1)), .int .i64 0, .int .i64 0, .string ⟨#[]⟩] 71)) B lo hi rs rm es nx (-((nx : Int) + 1)) := by
  have hlt : B < W.heap.size := (Array.getElem?_eq_some_iff.1 hb.box).1
  have hsz : (W.setCell ⟨B, 9, none⟩ (.int .i64 ((nx : Int) + 1))).heap.size = W.heap.size := by simp
  have hlow : ∀ k, k < W.heap.size → k ≠ B → ((W.setCell ⟨B, 9, none⟩ (.int .i64 ((nx : Int) + 1))).alloc (.cells #[.string ⟨#[]⟩, .int .i64 (-((nx : Int) + 1)), .int .i64 0, .int .i64 0, .string ⟨#[]⟩] 71)).heap[k]? = W.heap[k]? := fun k hk hne => by
    rw [Below.heap_alloc _ _ k (by rw [hsz]; exact hk), Below.heap_setCell W ⟨B, 9, none⟩ _ k hne]
  refine ⟨?_, ?_, (ownsRow_setCell_below hb.rs (a := ⟨B, 9, none⟩) (Nat.lt_succ_self B) _).alloc _, (ownsRow_setCell_below hb.rm (a := ⟨B, 9, none⟩) (Nat.lt_succ_self B) _).alloc _, fun e he => ?_, by simp, hlow, rfl, rfl, rfl⟩
  · rw [Below.heap_alloc _ _ B (by rw [hsz]; exact hlt), heap_setCell_same W B 9 _ 97 _ hb.box]
    simp
  · have := Go.heap_alloc_new (W.setCell ⟨B, 9, none⟩ (.int .i64 ((nx : Int) + 1))) (.cells #[.string ⟨#[]⟩, .int .i64 (-((nx : Int) + 1)), .int .i64 0, .int .i64 0, .string ⟨#[]⟩] 71)
    rw [hsz] at this
    exact this
  · obtain ⟨h1, h2, h3⟩ := hb.ent e he
    refine ⟨h1.kept fun k cur _ hk => hlow k (Array.getElem?_eq_some_iff.1 hk).1 ?_, h2, h3⟩
    exact kind_ne hk hb.box (by decide)

theorem MarkSl.alloc {W : World} {v : Value} {n : Nat} {x : Int} (h : MarkSl W v n x) (o : Obj) : MarkSl (W.alloc o) v n x :=
  h.kept fun k _ _ hk => Below.heap_alloc W o k (Array.getElem?_eq_some_iff.1 hk).1
theorem Mid.mark {W W1 wr : World} {B lo hi : Nat} {rs rm : Value} {es : List Ent} {nx : Nat} {x : Int} (h : Mid W W1 B lo hi rs rm es nx x) {r : Option Nat} (hg : W1.grownBy wr r) (hne : r ≠ some W.heap.size) :
    wr.cell? ⟨W.heap.size, 0, none⟩ = some (.string ⟨#[]⟩) ∧ wr.cell? ⟨W.heap.size, 1, none⟩ = some (.int .i64 x) ∧ wr.cell? ⟨W.heap.size, 2, none⟩ = some (.int .i64 0) ∧ wr.cell? ⟨W.heap.size, 3, none⟩ = some (.int .i64 0) ∧ wr.cell? ⟨W.heap.size, 4, none⟩ = some (.string ⟨#[]⟩) :=
  mark_cells (by rw [hg.block _ h.size (fun e => hne e.symm)]; exact h.mrk)
/-- What holds once the marks are written: the box holds vs and vm. -/
structure Mid2 (W w : World) (B lo hi : Nat) (vs vm : Value) (xs : List Value) (rm : Value) (es : List Ent) (nx : Nat) (x : Int) : Prop where
  box : w.heap[B]? = some (.cells #[.slice none 0 0, vs, vm, .slice none 0 0, .slice none 0 0, .slice none 0 0, .slice none 0 0, .slice none 0 0, .slice none 0 0, .int .i64 ((nx + 1 : Nat) : Int)] 97 (0, 0))
  mrk : w.heap[W.heap.size]? = some (.cells (markO x) 71 (0, 0))
  rs : w.ownsRow (B + 1) 25 1 vs xs.length xs
  rm : w.ownsRow (B + 1) 3 1 rm es.length (es.map fun e => Value.int .i64 e.x)
  ent : ∀ e ∈ es, MarkSl w e.v e.n e.x ∧ e.n ≤ 64 ∧ (∀ k, e.v.ownBlock = some k → k < lo ∨ hi ≤ k)
theorem Mid.at {W W1 w : World} {B lo mid hi n : Nat} {rs rm l : Value} {xs : List Value} {es : List Ent} {nx : Nat} {x : Int} (h : Mid W W1 B lo hi rs rm es nx x) (hl : W1.ownsRow lo 71 5 l n xs) (hm : ∀ k, l.ownBlock = some k → k < mid) (hmh : mid ≤ hi) (hhi : hi ≤ W.heap.size) (hg : W1.grownBy w l.ownBlock) :
    Mid2 W w B lo hi rs rm (es.map (·.v)) rm es nx x := by
  have hne : ∀ (k : Nat) (cur : Array Value) (t : Nat), W1.heap[k]? = some (Obj.cells cur t (0, 0)) → t ≠ 71 → w.heap[k]? = W1.heap[k]? := fun k cur t hk ht =>
    hg.block k (Array.getElem?_eq_some_iff.1 hk).1 (own_far hl hk (Ne.symm ht))
  refine ⟨(hne _ _ _ h.box (by decide)).trans h.box, (hg.block _ h.size (fun e => by have := hm _ e.symm; omega)).trans h.mrk, ?_, h.rm.kept hg (own_apart h.rm hl (by decide)), fun e he => ?_⟩
  · have := h.rs.kept hg (own_apart h.rs hl (by decide))
    rw [List.length_map]; exact this
  · obtain ⟨h1, h2, h3⟩ := h.ent e he
    refine ⟨h1.kept fun k cur hv hk => hg.block k (Array.getElem?_eq_some_iff.1 hk).1 fun e => ?_, h2, h3⟩
    have := hm k e.symm
    have := (hl.lt k e.symm).1
    rcases h3 k hv with h | h <;> omega
/-- The list of lists has grown, and the box holds it. -/
theorem Mid2.grow {W w w' : World} {B lo hi gr cap : Nat} {vs vm rm : Value} {xs ys : List Value} {es : List Ent} {nx : Nat} {x : Int} (h : Mid2 W w B lo hi vs vm xs rm es nx x) (hL : w.grownBy w' vs.ownBlock) {N : Nat}
    (hr : w'.ownsRow (B + 1) 25 1 (.slice (some ⟨gr, 0, none⟩) N cap) N ys) : Mid2 W (w'.setCell ⟨B, 1, none⟩ (.slice (some ⟨gr, 0, none⟩) N cap)) B lo hi (.slice (some ⟨gr, 0, none⟩) N cap) vm ys rm es nx x := by
  have hlt : B < w.heap.size := (Array.getElem?_eq_some_iff.1 h.box).1
  have hN : ys.length = N := by have := hr.1; omega
  have hfar : ∀ (k : Nat) (cur : Array Value) (t : Nat), w.heap[k]? = some (Obj.cells cur t (0, 0)) → t ≠ 25 → w'.heap[k]? = w.heap[k]? := fun k cur t hk ht => by
    have hkl := (Array.getElem?_eq_some_iff.1 hk).1
    rw [hL.block k hkl (own_far h.rs hk (Ne.symm ht))]
  have hfar2 : ∀ (k : Nat) (cur : Array Value) (t : Nat), w.heap[k]? = some (Obj.cells cur t (0, 0)) → t ≠ 25 → t ≠ 97 → (w'.setCell ⟨B, 1, none⟩ (.slice (some ⟨gr, 0, none⟩) N cap)).heap[k]? = w.heap[k]? := fun k cur t hk ht ht' => by
    rw [Below.heap_setCell w' ⟨B, 1, none⟩ _ k (kind_ne hk h.box ht'), hfar k cur t hk ht]
  refine ⟨?_, (hfar2 _ _ _ h.mrk (by decide) (by decide)).trans h.mrk, ?_, ?_, fun e he => ?_⟩
  · rw [heap_setCell_same w' B 1 _ 97 _ ((hfar _ _ _ h.box (by decide)).trans h.box)]
    simp
  · rw [hN]; exact ownsRow_setCell_below hr (a := ⟨B, 1, none⟩) (Nat.lt_succ_self B) _
  · refine ⟨h.rm.1, ?_⟩
    rcases h.rm.2 with hn | ⟨g, cap2, cur, rfl, hb, hgg, rest⟩
    · exact .inl hn
    · exact .inr ⟨g, cap2, cur, rfl, hb, (hfar2 _ _ _ hgg (by decide) (by decide)).trans hgg, rest⟩
  · obtain ⟨h1, h2, h3⟩ := h.ent e he
    exact ⟨h1.kept fun k cur _ hk => hfar2 k cur 71 hk (by decide) (by decide), h2, h3⟩
theorem MarkSl.grow {W w w' : World} {B lo hi : Nat} {vs vm rm u v : Value} {xs : List Value} {es : List Ent} {nx n : Nat} {x y : Int} (h : MarkSl w v n y) (hM : Mid2 W w B lo hi vs vm xs rm es nx x) (hL : w.grownBy w' vs.ownBlock) : MarkSl (w'.setCell ⟨B, 1, none⟩ u) v n y :=
  h.kept fun k cur _ hk => by
    have hkl := (Array.getElem?_eq_some_iff.1 hk).1
    rw [Below.heap_setCell w' ⟨B, 1, none⟩ _ k (kind_ne hk hM.box (by decide)), hL.block k hkl (own_far hM.rs hk (by decide))]
theorem Mid2.cells {W w : World} {B lo hi : Nat} {vs vm rm : Value} {xs : List Value} {es : List Ent} {nx : Nat} {x : Int} (h : Mid2 W w B lo hi vs vm xs rm es nx x) :
    w.cell? ⟨B, 1, none⟩ = some vs ∧ w.cell? ⟨B, 2, none⟩ = some vm ∧ ∀ k, w.frozen? ⟨B, k, none⟩ = false := by
  refine ⟨?_, ?_, fun k => frozen_of_row w B k _ 97 h.box⟩ <;> (rw [cell_blk h.box]; rfl)
theorem step_append_two {P : Program} (w : World) {ops : Array Oper} {o : Oper} {a : Act} {K : Act → World → Prop} {Q : Exit → Act → World → Prop} {E : Prop} (hgd : o.guard = none) (s x : Operand) (t : TypeId)
    (ho : o.op = .call { callee := .builtin .append, args := #[s, x], argTypes := #[t, t] })
    (base : Nat) (e : TypeId) (i : TypeInfo) (z : Value) (size bytes : Nat) (ht : P.underlying t = some (.slice e)) (hi : P.info? e = some i) (hz : i.zero = some z)
    (hsize : i.size = size) (hby : i.bytes = bytes) (hzs : z.cells.size = size)
    (v : Value) (n : Nat) (xs : List Value) (hs : a.eval s = v) (hown : w.ownsRow base e size v n xs)
    (ad : Addr) (m c : Nat) (news : List Value) (hx : a.eval x = .slice (some ad) m c) (hl : news.length = m * size) (hnews : ∀ j u, news[j]? = some u → w.cell? (ad.add j) = some u) (h1 : ∀ u ∈ news, u.oneCell' = true)
    (hm : 0 < m) (h63 : n + m ≤ maxLen) (hbytes : (n + m) * bytes ≤ 140737488355328) (hbase : base ≤ w.heap.size)
    (h : ∀ g cap w', w'.ownsRow base e size (.slice (some ⟨g, 0, none⟩) (n + m) cap) (n + m) (xs ++ news) → w'.ownsRow base e size v n xs → Lies w w' v g → K (a.put o.dst (.slice (some ⟨g, 0, none⟩) (n + m) cap)) w') :
    if Region.wanted o (yielded ops a.tmps) = true then Oper.wp P o a w K Q else E := by
  have hw : Region.wanted o (yielded ops a.tmps) = true := by simp [Region.wanted, hgd]
  rw [if_pos hw]
  exact wp_append_two w s x t ho base e i z size bytes ht hi hz hsize hby hzs v n xs hs hown ad m c news hx hl hnews h1 hm h63 hbytes hbase h
/-- The list of marks has grown, and the box holds it: the book, with four lists more. -/
theorem Mid2.done {W w w' : World} {B lo mid hi gm cap : Nat} {vs rm : Value} {xs ys : List Value} {es es' : List Ent} {nx : Nat} {x : Int} (h : Mid2 W w B lo hi vs rm xs rm es nx x) (hL : w.grownBy w' rm.ownBlock) {N : Nat}
    (hr : w'.ownsRow (B + 1) 3 1 (.slice (some ⟨gm, 0, none⟩) N cap) N ys) (hxs : xs = (es ++ es').map (·.v)) (hys : ys = (es ++ es').map fun e => Value.int .i64 e.x) (hlm : lo ≤ mid)
    (hent : ∀ e ∈ es', MarkSl w e.v e.n e.x ∧ e.n ≤ 64 ∧ (∀ k, e.v.ownBlock = some k → k < mid ∨ hi ≤ k)) : Bk (w'.setCell ⟨B, 2, none⟩ (.slice (some ⟨gm, 0, none⟩) N cap)) B mid hi vs (.slice (some ⟨gm, 0, none⟩) N cap) (es ++ es') (nx + 1) := by
  have hN : N = (es ++ es').length := by have := hr.1; rw [hys, List.length_map] at this; omega
  have hfar : ∀ (k : Nat) (cur : Array Value) (t : Nat), w.heap[k]? = some (Obj.cells cur t (0, 0)) → t ≠ 3 → w'.heap[k]? = w.heap[k]? := fun k cur t hk ht =>
    hL.block k (Array.getElem?_eq_some_iff.1 hk).1 (own_far h.rm hk (Ne.symm ht))
  have hfar2 : ∀ (k : Nat) (cur : Array Value) (t : Nat), w.heap[k]? = some (Obj.cells cur t (0, 0)) → t ≠ 3 → t ≠ 97 → (w'.setCell ⟨B, 2, none⟩ (.slice (some ⟨gm, 0, none⟩) N cap)).heap[k]? = w.heap[k]? := fun k cur t hk ht ht' => by
    rw [Below.heap_setCell w' ⟨B, 2, none⟩ _ k (kind_ne hk h.box ht'), hfar k cur t hk ht]
  have hm : ∀ e : Ent, MarkSl w e.v e.n e.x → MarkSl (w'.setCell ⟨B, 2, none⟩ (.slice (some ⟨gm, 0, none⟩) N cap)) e.v e.n e.x := fun e h1 => h1.kept fun k cur _ hk => hfar2 k cur 71 hk (by decide) (by decide)
  refine ⟨?_, ?_, ?_, fun e he => ?_⟩
  · rw [heap_setCell_same w' B 2 _ 97 _ ((hfar _ _ _ h.box (by decide)).trans h.box)]
    simp
  · rw [← List.length_map (f := (·.v)), ← hxs]
    refine ⟨h.rs.1, ?_⟩
    rcases h.rs.2 with hn | ⟨g, cap2, cur, hv, hb, hgg, rest⟩
    · exact .inl hn
    · exact .inr ⟨g, cap2, cur, hv, hb, (hfar2 _ _ _ hgg (by decide) (by decide)).trans hgg, rest⟩
  · rw [← hN, ← hys]; exact ownsRow_setCell_below hr (a := ⟨B, 2, none⟩) (Nat.lt_succ_self B) _
  · rcases List.mem_append.1 he with h0 | h0
    · obtain ⟨h1, h2, h3⟩ := h.ent e h0
      exact ⟨hm e h1, h2, fun k hk => by rcases h3 k hk with h | h <;> omega⟩
    · obtain ⟨h1, h2, h3⟩ := hent e h0
      exact ⟨hm e h1, h2, h3⟩
theorem Mid2.kept {W w w' : World} {B lo hi : Nat} {vs rm : Value} {xs : List Value} {es : List Ent} {nx : Nat} {x : Int} (h : Mid2 W w B lo hi vs rm xs rm es nx x) (hL : w.grownBy w' rm.ownBlock) :
    w'.cell? ⟨W.heap.size, 1, none⟩ = some (.int .i64 x) ∧ w'.cell? ⟨B, 2, none⟩ = some rm ∧ w'.frozen? ⟨B, 2, none⟩ = false := by
  have hfar : ∀ (k : Nat) (cur : Array Value) (t : Nat), w.heap[k]? = some (Obj.cells cur t (0, 0)) → t ≠ 3 → w'.heap[k]? = w.heap[k]? := fun k cur t hk ht =>
    hL.block k (Array.getElem?_eq_some_iff.1 hk).1 (own_far h.rm hk (Ne.symm ht))
  refine ⟨?_, ?_, ?_⟩
  · rw [cell_blk ((hfar _ _ _ h.mrk (by decide)).trans h.mrk)]; rfl
  · rw [cell_blk ((hfar _ _ _ h.box (by decide)).trans h.box)]; rfl
  · exact frozen_of_row w' B 2 _ 97 ((hfar _ _ _ h.box (by decide)).trans h.box)
theorem grown_da {w w' : World} {o : Obj} {r : Option Nat} (h : (w.drew.alloc o).grownBy w' r) : w.grownBy w' r :=
  grown_trans (b := w.drew.alloc o) ⟨rfl, rfl, rfl, by simp, fun k hk _ => Below.heap_alloc w.drew o k hk⟩ h

/-- The frame of ownRecords. -/
def Fr (B : Nat) (l : Value) (W w : World) : Prop := Below B W w ∧ OKept l W w
theorem Fr.own {B : Nat} {l v : Value} {W w w' : World} {e s n : Nat} {xs : List Value} (h : Fr B l W w) (ho : w.ownsRow (B + 1) e s v n xs) (he : e = 25 ∨ e = 3) (hg : w.grownBy w' v.ownBlock) (hB : B ≤ w.heap.size) : Fr B l W w' := by
  refine ⟨h.1.grown hg hB fun k hk => by have := (ho.lt k hk).1; omega, fun k cur t h1 h2 h3 hk hl => ?_⟩
  have hw := (h.2 k cur t h1 h2 h3 hk hl)
  rw [← hw]
  rw [hk] at hw
  exact hg.block k (Array.getElem?_eq_some_iff.1 hw).1 (own_far ho hw (by rcases he with rfl | rfl; exact Ne.symm h2; exact Ne.symm h3))
theorem Fr.box {B : Nat} {l : Value} {W w : World} {cs : Array Value} (h : Fr B l W w) (hb : W.heap[B]? = some (.cells cs 97 (0, 0))) (i : Nat) (u : Value) : Fr B l W (w.setCell ⟨B, i, none⟩ u) :=
  ⟨h.1.setCell (Nat.le_refl B) u, fun k cur t h1 h2 h3 hk hl => by rw [Below.heap_setCell w ⟨B, i, none⟩ u k (kind_ne hk hb h1)]; exact h.2 k cur t h1 h2 h3 hk hl⟩
theorem Fr.start {W W1 w : World} {B lo hi n : Nat} {rs rm l : Value} {xs : List Value} {es : List Ent} {nx : Nat} {x : Int} (h : Mid W W1 B lo hi rs rm es nx x) {cs : Array Value} (hb : W.heap[B]? = some (.cells cs 97 (0, 0))) (hl : W1.ownsRow lo 71 5 l n xs) (hB : B < lo) (hg : W1.grownBy w l.ownBlock) : Fr B l W w := by
  have hlt := (Array.getElem?_eq_some_iff.1 hb).1
  have h1 : Below B W W1 := ⟨h.os, h.tape, h.output, Nat.le_of_lt h.size, fun k hk => h.low k (by omega) (by omega)⟩
  refine ⟨h1.grown hg (by have := h.size; omega) fun k hk => by have := (hl.lt k hk).1; omega, fun k cur t t1 t2 t3 hk hn => ?_⟩
  have hkl := (Array.getElem?_eq_some_iff.1 hk).1
  rw [hg.block k (by have := h.size; omega) (fun e => hn e.symm), h.low k hkl (kind_ne hk hb t1)]
theorem app_room4 (n : Nat) (h : n ≤ 16777216) : n + 4 ≤ maxLen ∧ (n + 4) * 24 ≤ 140737488355328 ∧ (n + 4) * 8 ≤ 140737488355328 := ⟨by unfold maxLen; omega, by omega, by omega⟩
theorem app_room (n m : Nat) (h : n ≤ 60) (hm : m ≤ 3) : n + m ≤ maxLen ∧ (n + m) * 56 ≤ 140737488355328 := ⟨by unfold maxLen; omega, by omega⟩

set_option maxHeartbeats 4000000 in
theorem own_any (W : World) (B lo mid hi : Nat) (rs rm l : Value) (es : List Ent) (nx : Nat) (recs : List Rec) (hb : Bk W B lo hi rs rm es nx) (hl : W.ownsRow lo 71 5 l recs.length (rcells recs)) (hm : ∀ k, l.ownBlock = some k → k < mid)
    (hlm : lo ≤ mid) (hmh : mid ≤ hi) (hhi : hi ≤ W.heap.size) (hB : B < lo) (hn : recs.length ≤ 60) (hes : es.length ≤ 16777216) (hnx : nx ≤ 16777216) :
    Calls Tryz.prog 127 #[.pointer (some ⟨B, 1, none⟩), l] W fun e W' => e = .returned (.tuple #[]) ∧ ∃ rs' rm' es', Bk W' B mid hi rs' rm' (es ++ es') (nx + 1) ∧ es'.length = 4 ∧ Below B W W' ∧ OKept l W W' := by
  obtain ⟨x, hx⟩ : ∃ x : Int, x = -((nx : Int) + 1) := ⟨_, rfl⟩
  obtain ⟨b1, b2, b9, bf⟩ := book_cells hb
  obtain ⟨a, c, rfl⟩ : ∃ a c, l = .slice a recs.length c := by
    rcases hl.2 with ⟨h1, h2⟩ | ⟨g, cap, cur, h1, _⟩
    · exact ⟨none, 0, by rw [h1, h2]⟩
    · exact ⟨_, _, h1⟩
  obtain ⟨ars, crs, rfl⟩ : ∃ a c, rs = .slice a es.length c := by
    rcases hb.rs.2 with ⟨h1, h2⟩ | ⟨g, cap, cur, h1, _⟩
    · exact ⟨none, 0, by rw [h1, h2]⟩
    · exact ⟨_, _, h1⟩
  obtain ⟨arm, crm, rfl⟩ : ∃ a c, rm = .slice a es.length c := by
    rcases hb.rm.2 with ⟨h1, h2⟩ | ⟨g, cap, cur, h1, _⟩
    · exact ⟨none, 0, by rw [h1, h2]⟩
    · exact ⟨_, _, h1⟩
  obtain ⟨i0, hi0, hz0, hz1, hz2⟩ := info_parts info91
  obtain ⟨j0, hj0, hy0, hy1, hy2⟩ := info_parts info39
  obtain ⟨k0, hk0, hx0, hx1, hx2⟩ := info_parts info3
  have hu39 := u39
  have hu27 := u27
  have hu28 := u28
  have hxn : (-((nx : Int) + 1)) = x := hx.symm
  have HM := mid_start hb
  obtain ⟨W1, hW1⟩ : ∃ W1, W1 = (W.setCell ⟨B, 9, none⟩ (.int .i64 ((nx : Int) + 1))).alloc (.cells #[.string ⟨#[]⟩, .int .i64 (-((nx : Int) + 1)), .int .i64 0, .int .i64 0, .string ⟨#[]⟩] 71) := ⟨_, rfl⟩
  have HW : Hid (W1 = (W.setCell ⟨B, 9, none⟩ (.int .i64 ((nx : Int) + 1))).alloc (.cells #[.string ⟨#[]⟩, .int .i64 (-((nx : Int) + 1)), .int .i64 0, .int .i64 0, .string ⟨#[]⟩] 71)) := hW1
  rw [← hW1, hxn] at HM
  have hl1 : W1.ownsRow lo 71 5 (.slice a recs.length c) recs.length (rcells recs) := by rw [hW1]; exact (ownsRow_setCell_below hl (a := ⟨B, 9, none⟩) hB _).alloc _
  have HX : Hid (x = -((nx : Int) + 1)) := hx
  have hne1 : (Value.slice a recs.length c).ownBlock ≠ some W.heap.size := by
    intro h; have := hm _ h; omega
  clear hW1 hxn hx
  go_enter Tryz.func127, Tryz.ntmps127
  go_wp2
  go_loopw [5] (fun i wr => ∃ k : Nat, k ≤ recs.length ∧ i = .int .i64 k ∧ W1.grownBy wr (Value.slice a recs.length c).ownBlock ∧ wr.ownsRow lo 71 5 (.slice a recs.length c) recs.length (rcells (full x recs k))) (fun i _ => recs.length - (intOf i).toNat)
  case atStart => exact ⟨0, Nat.zero_le _, rfl, by rw [HW.out]; exact grown_refl _ _, by rw [full_zero, ← HW.out]; exact hl1⟩
  case round =>
    obtain ⟨k, hk, rfl, hg, ho⟩ := hrel
    have hmk : wr.heap[W.heap.size]? = some (.cells (markO x) 71 (0, 0)) := by rw [hg.block _ HM.size (fun e => hne1 e.symm)]; exact HM.mrk
    obtain ⟨m0, m1, m2, m3, m4⟩ := mark_cells hmk
    clear hmk
    by_cases hlt : k < recs.length
    · obtain ⟨g, cap, hv, hlg, hgl⟩ := ho.form (by omega)
      simp only [Value.slice.injEq, true_and] at hv
      obtain ⟨rfl, rfl⟩ := hv
      obtain ⟨cur, hcur⟩ := own_blk ho (k := g) rfl
      have HC : Hid (wr.heap[g]? = some (.cells cur 71 (0, 0))) := hcur
      have hcz : recs.length * 5 ≤ cur.size := by
        obtain ⟨cur2, h1, h2⟩ := owns_block ho
        rw [hcur] at h1
        simp at h1
        subst h1
        obtain ⟨_, ⟨h3, _⟩ | ⟨g', cap', cur', hv, _, _, hnc, _⟩⟩ := ho
        · cases h3
        · simp at hv
          obtain ⟨rfl, rfl⟩ := hv
          rw [h2]; exact Nat.mul_le_mul_right 5 hnc
      clear hcur
      go_wp2_with (refine wpList_storeG rfl 71 (.tmp 31) (.tmp 30) rfl g (k * 5) (markO x) rfl rfl cur 71 HC.out (by simp [markO]; omega) size91 (rc1_one (ownM x)) ?_)
      intro w2 hw2 hg2
      have ho2 := own_store ho rfl hlt HC.out hw2
      clear hw2
      go_wp2
      go_roundw
      case rel => exact ⟨k + 1, hlt, by go_num, grown_trans hg hg2, ho2⟩
      case measure => simp [intOf]; omega
    · obtain rfl : k = recs.length := by omega
      rw [full_all] at ho
      clear hlt
      go_wp2_with (first
        | (at_builtin; refine wpList_append_two _ rfl _ _ 25 rfl lo 71 i0 (.agg #[.string ByteArray.empty, .int .i64 0, .int .i64 0, .int .i64 0, .string ByteArray.empty]) 5 56 hu39 hi0 hz0 hz1 hz2 rfl _ _ _ rfl (ho.alloc _) ⟨wr.heap.size, 0, none⟩ 1 1 (marks x 1) rfl rfl (World.news_of_block (Go.heap_alloc_new _ _)) (marks_one x 1) (by decide) (app_room _ 1 hn (by decide)).1 (app_room _ 1 hn (by decide)).2 ?lo1 ?_))
      case lo1 => have := hg.size; have := HM.size; simp; omega
      intro g1 c1 w1 r1 o1 L1
      rw [← marks_add] at r1
      have hg1 : W1.grownBy w1 (Value.slice a recs.length c).ownBlock := grown_trans (grown_trans hg (World.grownBy_alloc _ _ _)) L1.1
      have s1 : MarkSl w1 (.slice (some ⟨g1, 0, none⟩) (recs.length + 1) c1) (recs.length + 1) x := MarkSl.own r1
      have q1 : W.heap.size ≤ g1 ∨ (Value.slice a recs.length c).ownBlock = some g1 := by
        rcases L1.2.1 with h | ⟨h, _⟩
        · exact .inr h
        · left; have := hg.size; have := HM.size; simp at h; omega
      clear m0 m1 m2 m3 m4 r1 L1
      obtain ⟨m0, m1, m2, m3, m4⟩ := HM.mark hg1 hne1
      go_wp2_with (first
        | (at_builtin; refine wpList_append_two _ rfl _ _ 25 rfl lo 71 i0 (.agg #[.string ByteArray.empty, .int .i64 0, .int .i64 0, .int .i64 0, .string ByteArray.empty]) 5 56 hu39 hi0 hz0 hz1 hz2 rfl _ _ _ rfl (o1.alloc _) ⟨w1.heap.size, 0, none⟩ 2 2 (marks x 2) rfl rfl (World.news_of_block (Go.heap_alloc_new _ _)) (marks_one x 2) (by decide) (app_room _ 2 hn (by decide)).1 (app_room _ 2 hn (by decide)).2 ?lo2 ?_))
      case lo2 => have := hg1.size; have := HM.size; simp; omega
      intro g2 c2 w2 r2 o2 L2
      rw [← marks_add] at r2
      have hg2 : W1.grownBy w2 (Value.slice a recs.length c).ownBlock := grown_trans (grown_trans hg1 (World.grownBy_alloc _ _ _)) L2.1
      have s1' : MarkSl w2 (.slice (some ⟨g1, 0, none⟩) (recs.length + 1) c1) (recs.length + 1) x := (s1.alloc _).app L2 r2 (by omega)
      have s2 : MarkSl w2 (.slice (some ⟨g2, 0, none⟩) (recs.length + 2) c2) (recs.length + 2) x := MarkSl.own r2
      have q2 : W.heap.size ≤ g2 ∨ (Value.slice a recs.length c).ownBlock = some g2 := by
        rcases L2.2.1 with h | ⟨h, _⟩
        · exact .inr h
        · left; have := hg1.size; have := HM.size; simp at h; omega
      clear m0 m1 m2 m3 m4 r2 L2 s1
      obtain ⟨m0, m1, m2, m3, m4⟩ := HM.mark hg2 hne1
      go_wp2_with (first
        | (at_builtin; refine wpList_append_two _ rfl _ _ 25 rfl lo 71 i0 (.agg #[.string ByteArray.empty, .int .i64 0, .int .i64 0, .int .i64 0, .string ByteArray.empty]) 5 56 hu39 hi0 hz0 hz1 hz2 rfl _ _ _ rfl (o2.alloc _) ⟨w2.heap.size, 0, none⟩ 3 3 (marks x 3) rfl rfl (World.news_of_block (Go.heap_alloc_new _ _)) (marks_one x 3) (by decide) (app_room _ 3 hn (by decide)).1 (app_room _ 3 hn (by decide)).2 ?lo3 ?_))
      case lo3 => have := hg2.size; have := HM.size; simp; omega
      intro g3 c3 w3 r3 o3 L3
      rw [← marks_add] at r3
      have hg3 : W1.grownBy w3 (Value.slice a recs.length c).ownBlock := grown_trans (grown_trans hg2 (World.grownBy_alloc _ _ _)) L3.1
      have s1 : MarkSl w3 (.slice (some ⟨g1, 0, none⟩) (recs.length + 1) c1) (recs.length + 1) x := (s1'.alloc _).app L3 r3 (by omega)
      have s2' : MarkSl w3 (.slice (some ⟨g2, 0, none⟩) (recs.length + 2) c2) (recs.length + 2) x := (s2.alloc _).app L3 r3 (by omega)
      have s3 : MarkSl w3 (.slice (some ⟨g3, 0, none⟩) (recs.length + 3) c3) (recs.length + 3) x := MarkSl.own r3
      have s0 : MarkSl w3 (.slice a recs.length c) recs.length x := MarkSl.own o3
      have q3 : W.heap.size ≤ g3 ∨ (Value.slice a recs.length c).ownBlock = some g3 := by
        rcases L3.2.1 with h | ⟨h, _⟩
        · exact .inr h
        · left; have := hg2.size; have := HM.size; simp at h; omega
      clear m0 m1 m2 m3 m4 r3 L3 s1' s2 o1 o2 hg hg1 hg2 ho
      have M3 := HM.at hl1 hm hmh hhi hg3
      obtain ⟨b1, b2, bf⟩ := M3.cells
      have hrs3 := M3.rs
      rw [List.length_map] at hrs3
      go_wp2_with (first
        | (at_builtin; refine wpList_append_two _ rfl _ _ 91 rfl (B + 1) 25 j0 (.slice none 0 0) 1 24 hu27 hj0 hy0 hy1 hy2 rfl _ _ _ rfl (hrs3.alloc _) ⟨w3.heap.size, 0, none⟩ 4 4 [.slice a recs.length c, .slice (some ⟨g1, 0, none⟩) (recs.length + 1) c1, .slice (some ⟨g2, 0, none⟩) (recs.length + 2) c2, .slice (some ⟨g3, 0, none⟩) (recs.length + 3) c3] rfl rfl (World.news_of_block (Go.heap_alloc_new _ _)) ?one4 (by decide) (app_room4 _ hes).1 (app_room4 _ hes).2.1 ?lo4 ?_))
      case one4 => intro u hu; simp at hu; rcases hu with rfl | rfl | rfl | rfl <;> rfl
      case lo4 => have := hg3.size; have := HM.size; simp; omega
      intro gr cr w4 r4 o4 L4
      have G4 : w3.grownBy w4 (Value.slice ars es.length crs).ownBlock := grown_trans (World.grownBy_alloc _ _ _) L4.1
      have M5 := M3.grow G4 r4
      have t0 := s0.grow (u := .slice (some ⟨gr, 0, none⟩) (es.length + 4) cr) M3 G4
      have t1 := s1.grow (u := .slice (some ⟨gr, 0, none⟩) (es.length + 4) cr) M3 G4
      have t2 := s2'.grow (u := .slice (some ⟨gr, 0, none⟩) (es.length + 4) cr) M3 G4
      have t3 := s3.grow (u := .slice (some ⟨gr, 0, none⟩) (es.length + 4) cr) M3 G4
      have hlt3 : B < w3.heap.size := (Array.getElem?_eq_some_iff.1 M3.box).1
      have e4 : w4.heap[B]? = w3.heap[B]? := G4.block B hlt3 (own_far hrs3 M3.box (by decide))
      have d1 : w4.cell? ⟨B, 1, none⟩ = some (.slice ars es.length crs) := by rw [World.cell?_of_block (w := w3) (a := ⟨B, 1, none⟩) e4]; exact b1
      have df : w4.frozen? ⟨B, 1, none⟩ = false := by rw [World.frozen?_of_block (w := w3) (a := ⟨B, 1, none⟩) e4]; exact bf 1
      have HF : Hid (Fr B (.slice a recs.length c) W (w4.setCell ⟨B, 1, none⟩ (.slice (some ⟨gr, 0, none⟩) (es.length + 4) cr))) := ((Fr.start HM hb.box hl1 hB hg3).own hrs3 (.inl rfl) G4 (Nat.le_of_lt hlt3)).box hb.box 1 _
      clear b1 b2 bf e4 hrs3 o4 r4 s0 s1 s2' s3 o3
      go_wp2
      generalize w4.setCell ⟨B, 1, none⟩ (.slice (some ⟨gr, 0, none⟩) (es.length + 4) cr) = w5 at M5 t0 t1 t2 t3 HF ⊢
      clear L4 d1 df hlt3
      obtain ⟨_, b2, bf⟩ := M5.cells
      obtain ⟨_, m1, _, _, _⟩ := mark_cells M5.mrk
      have hrm5 := M5.rm
      have F5 : Fr B (.slice a recs.length c) W w5 := HF.out
      have hne2 : [Value.int .i64 x, .int .i64 x, .int .i64 x, .int .i64 x].length = 4 * 1 := rfl
      have hon2 : ∀ u ∈ [Value.int .i64 x, .int .i64 x, .int .i64 x, .int .i64 x], u.oneCell' = true := by intro u hu; simp at hu; rw [hu]; rfl
      have hlo5 : ∀ o, B + 1 ≤ (w5.drew.alloc o).heap.size := fun o => by have := (Array.getElem?_eq_some_iff.1 M5.box).1; simp; omega
      have HEND : Hid (∀ g6 c6 w6, w6.ownsRow (B + 1) 3 1 (.slice (some ⟨g6, 0, none⟩) (es.length + 4) c6) (es.length + 4) ((es.map fun e => Value.int .i64 e.x) ++ [.int .i64 x, .int .i64 x, .int .i64 x, .int .i64 x]) → w5.grownBy w6 (Value.slice arm es.length crm).ownBlock →
          ∃ rs' rm' es', Bk (w6.setCell ⟨B, 2, none⟩ (.slice (some ⟨g6, 0, none⟩) (es.length + 4) c6)) B mid hi rs' rm' (es ++ es') (nx + 1) ∧ es'.length = 4 ∧ Below B W (w6.setCell ⟨B, 2, none⟩ (.slice (some ⟨g6, 0, none⟩) (es.length + 4) c6)) ∧ OKept (.slice a recs.length c) W (w6.setCell ⟨B, 2, none⟩ (.slice (some ⟨g6, 0, none⟩) (es.length + 4) c6))) := by
        intro g6 c6 w6 r6 G6
        have F6 := (F5.own hrm5 (.inr rfl) G6 (Nat.le_of_lt (Array.getElem?_eq_some_iff.1 M5.box).1)).box hb.box 2 (.slice (some ⟨g6, 0, none⟩) (es.length + 4) c6)
        refine ⟨_, _, [⟨.slice a recs.length c, recs.length, x⟩, ⟨.slice (some ⟨g1, 0, none⟩) (recs.length + 1) c1, recs.length + 1, x⟩, ⟨.slice (some ⟨g2, 0, none⟩) (recs.length + 2) c2, recs.length + 2, x⟩, ⟨.slice (some ⟨g3, 0, none⟩) (recs.length + 3) c3, recs.length + 3, x⟩], M5.done G6 r6 (by simp) (by simp) hlm ?_, rfl, F6.1, F6.2⟩
        intro e he
        simp only [List.mem_cons, List.not_mem_nil, or_false] at he
        rcases he with rfl | rfl | rfl | rfl
        · exact ⟨t0, by simp only; omega, fun k hk => .inl (hm k hk)⟩
        · refine ⟨t1, by simp only; omega, fun k hk => ?_⟩
          simp [Value.ownBlock] at hk; subst hk
          rcases q1 with h | h
          · omega
          · exact .inl (hm _ h)
        · refine ⟨t2, by simp only; omega, fun k hk => ?_⟩
          simp [Value.ownBlock] at hk; subst hk
          rcases q2 with h | h
          · omega
          · exact .inl (hm _ h)
        · refine ⟨t3, by simp only; omega, fun k hk => ?_⟩
          simp [Value.ownBlock] at hk; subst hk
          rcases q3 with h | h
          · omega
          · exact .inl (hm _ h)
      have b2a : ∀ o, (w5.alloc o).cell? ⟨B, 2, none⟩ = some (.slice arm es.length crm) := fun o => by rw [World.cell?_alloc_some _ _ _ (by rw [b2]; rfl)]; exact b2
      have m1a : ∀ o, (w5.drew.alloc o).cell? ⟨W.heap.size, 1, none⟩ = some (.int .i64 x) := fun o => by rw [World.cell?_alloc_some _ _ _ (by rw [show w5.drew.cell? ⟨W.heap.size, 1, none⟩ = _ from m1]; rfl)]; exact m1
      have hSd : w5.drew.cell? ⟨W.heap.size, 1, none⟩ = some (.int .i64 x) := m1
      refine wp_region_held_drew (S := fun w' => w'.cell? ⟨W.heap.size, 1, none⟩ = some (.int .i64 x)) (by kernel_rfl) hSd (fun hS => ?_)
      refine wpAnyH_take (i := 0) (v := .pointer (some ⟨B, 1, none⟩)) rfl (by kernel_rfl) (by kernel_rfl) (by kernel_rfl) (fun _ _ _ h => h) (Or.inl ⟨by rfl, fun w hw => by have h0 : w.cell? ⟨W.heap.size, 1, none⟩ = some (.int .i64 x) := hw; go_simp⟩) hS ?_
      refine wpAnyH_take (i := 1) (v := .pointer (some ⟨B, 1, none⟩)) rfl (by kernel_rfl) (by kernel_rfl) (by kernel_rfl) (fun _ _ _ h => h) (Or.inl ⟨by rfl, fun w hw => by have h0 : w.cell? ⟨W.heap.size, 1, none⟩ = some (.int .i64 x) := hw; go_simp⟩) hS ?_
      refine wpAnyH_take (i := 2) (v := .pointer (some ⟨B, 1, none⟩)) rfl (by kernel_rfl) (by kernel_rfl) (by kernel_rfl) (fun _ _ _ h => h) (Or.inl ⟨by rfl, fun w hw => by have h0 : w.cell? ⟨W.heap.size, 1, none⟩ = some (.int .i64 x) := hw; go_simp⟩) hS ?_
      refine wpAnyH_take (i := 3) (v := .pointer (some ⟨B, 2, none⟩)) rfl (by kernel_rfl) (by kernel_rfl) (by kernel_rfl) (fun _ _ _ h => h) (Or.inl ⟨by rfl, fun w hw => by have h0 : w.cell? ⟨W.heap.size, 1, none⟩ = some (.int .i64 x) := hw; go_simp⟩) hS ?_
      refine wpAnyH_take (i := 5) (v := .pointer (some ⟨W.heap.size, 1, none⟩)) rfl (by kernel_rfl) (by kernel_rfl) (by kernel_rfl) (fun _ _ _ h => h) (Or.inl ⟨by rfl, fun w hw => by have h0 : w.cell? ⟨W.heap.size, 1, none⟩ = some (.int .i64 x) := hw; go_simp⟩) hS ?_
      refine wpAnyH_take (i := 6) (v := .int .i64 x) rfl (by kernel_rfl) (by kernel_rfl) (by kernel_rfl) (fun _ _ _ h => h) (Or.inl ⟨by rfl, fun w hw => by have h0 : w.cell? ⟨W.heap.size, 1, none⟩ = some (.int .i64 x) := hw; go_simp⟩) hS ?_
      refine wpAnyH_take (i := 7) (v := .pointer (some ⟨W.heap.size, 1, none⟩)) rfl (by kernel_rfl) (by kernel_rfl) (by kernel_rfl) (fun _ _ _ h => h) (Or.inl ⟨by rfl, fun w hw => by have h0 : w.cell? ⟨W.heap.size, 1, none⟩ = some (.int .i64 x) := hw; go_simp⟩) hS ?_
      refine wpAnyH_take (i := 8) (v := .int .i64 x) rfl (by kernel_rfl) (by kernel_rfl) (by kernel_rfl) (fun _ _ _ h => h) (Or.inl ⟨by rfl, fun w hw => by have h0 : w.cell? ⟨W.heap.size, 1, none⟩ = some (.int .i64 x) := hw; go_simp⟩) hS ?_
      refine wpAnyH_take (i := 9) (v := .pointer (some ⟨W.heap.size, 1, none⟩)) rfl (by kernel_rfl) (by kernel_rfl) (by kernel_rfl) (fun _ _ _ h => h) (Or.inl ⟨by rfl, fun w hw => by have h0 : w.cell? ⟨W.heap.size, 1, none⟩ = some (.int .i64 x) := hw; go_simp⟩) hS ?_
      refine wpAnyH_take (i := 10) (v := .int .i64 x) rfl (by kernel_rfl) (by kernel_rfl) (by kernel_rfl) (fun _ _ _ h => h) (Or.inl ⟨by rfl, fun w hw => by have h0 : w.cell? ⟨W.heap.size, 1, none⟩ = some (.int .i64 x) := hw; go_simp⟩) hS ?_
      refine wpAnyH_take (i := 11) (v := .pointer (some ⟨W.heap.size, 1, none⟩)) rfl (by kernel_rfl) (by kernel_rfl) (by kernel_rfl) (fun _ _ _ h => h) (Or.inl ⟨by rfl, fun w hw => by have h0 : w.cell? ⟨W.heap.size, 1, none⟩ = some (.int .i64 x) := hw; go_simp⟩) hS ?_
      refine wpAnyH_take (i := 12) (v := .int .i64 x) rfl (by kernel_rfl) (by kernel_rfl) (by kernel_rfl) (fun _ _ _ h => h) (Or.inl ⟨by rfl, fun w hw => by have h0 : w.cell? ⟨W.heap.size, 1, none⟩ = some (.int .i64 x) := hw; go_simp⟩) hS ?_
      refine wpAnyH_ready (rs := [4, 13]) (by kernel_rfl) (by simp) ?_
      refine AllReadyH.cons rfl (fun K hK => ?_) (AllReadyH.cons rfl (fun K hK => ?_) AllReadyH.nil)
      · go_simp
        refine hK.out _ _ hS fun hS => ?_
        refine wpAnyH_ready (rs := [13]) (by kernel_rfl) (by simp) ?_
        refine AllReadyH.cons rfl (fun K hK => ?_) AllReadyH.nil
        go_simp
        refine hK.out _ _ (m1a _) fun hS => ?_
        refine wpAnyH_ready (rs := [14]) (by kernel_rfl) (by simp) ?_
        refine AllReadyH.cons rfl (fun K hK => ?_) AllReadyH.nil
        refine step_append_two _ rfl _ _ 28 rfl (B + 1) 3 k0 (.int .i64 0) 1 8 hu28 hk0 hx0 hx1 hx2 rfl (.slice arm es.length crm) _ _ rfl (hrm5.alloc _) ⟨w5.heap.size, 0, none⟩ 4 4 [.int .i64 x, .int .i64 x, .int .i64 x, .int .i64 x] rfl rfl (World.news_of_block (Go.heap_alloc_new _ _)) hon2 (by decide) (app_room4 _ hes).1 (app_room4 _ hes).2.2 (hlo5 _) ?_
        intro g6 c6 w6 r6 o6 L6
        have G6 := grown_da L6.1
        clear L6 o6
        obtain ⟨k1, k2, k3⟩ := M5.kept G6
        refine hK.out _ _ k1 fun hS => ?_
        refine wpAnyH_take (i := 15) (v := .pointer (some ⟨B, 1, none⟩)) rfl (by kernel_rfl) (by kernel_rfl) (by kernel_rfl) (fun _ _ _ h => h) (Or.inl ⟨by rfl, fun w hw => by have h0 : w.cell? ⟨W.heap.size, 1, none⟩ = some (.int .i64 x) := hw; go_simp⟩) hS ?_
        refine wpAnyH_take (i := 16) (v := .pointer (some ⟨B, 2, none⟩)) rfl (by kernel_rfl) (by kernel_rfl) (by kernel_rfl) (fun _ _ _ h => h) (Or.inl ⟨by rfl, fun w hw => by have h0 : w.cell? ⟨W.heap.size, 1, none⟩ = some (.int .i64 x) := hw; go_simp⟩) hS ?_
        refine wpAnyH_ready (rs := [17]) (by kernel_rfl) (by simp) ?_
        refine AllReadyH.cons rfl (fun K hK => ?_) AllReadyH.nil
        go_simp
        refine hK.out _ _ ((World.cell?_setCell_other _ _ _ _ (by simp)).trans k1) fun hS => ?_
        refine wpAnyH_done (by kernel_rfl) ?_ _
        go_end0
        exact ⟨rfl, HEND.out g6 c6 w6 r6 G6⟩
      · go_simp
        refine hK.out _ _ (m1a _) fun hS => ?_
        refine wpAnyH_ready (rs := [4]) (by kernel_rfl) (by simp) ?_
        refine AllReadyH.cons rfl (fun K hK => ?_) AllReadyH.nil
        go_simp
        refine hK.out _ _ hS fun hS => ?_
        refine wpAnyH_ready (rs := [14]) (by kernel_rfl) (by simp) ?_
        refine AllReadyH.cons rfl (fun K hK => ?_) AllReadyH.nil
        refine step_append_two _ rfl _ _ 28 rfl (B + 1) 3 k0 (.int .i64 0) 1 8 hu28 hk0 hx0 hx1 hx2 rfl (.slice arm es.length crm) _ _ rfl (hrm5.alloc _) ⟨w5.heap.size, 0, none⟩ 4 4 [.int .i64 x, .int .i64 x, .int .i64 x, .int .i64 x] rfl rfl (World.news_of_block (Go.heap_alloc_new _ _)) hon2 (by decide) (app_room4 _ hes).1 (app_room4 _ hes).2.2 (hlo5 _) ?_
        intro g6 c6 w6 r6 o6 L6
        have G6 := grown_da L6.1
        clear L6 o6
        obtain ⟨k1, k2, k3⟩ := M5.kept G6
        refine hK.out _ _ k1 fun hS => ?_
        refine wpAnyH_take (i := 15) (v := .pointer (some ⟨B, 1, none⟩)) rfl (by kernel_rfl) (by kernel_rfl) (by kernel_rfl) (fun _ _ _ h => h) (Or.inl ⟨by rfl, fun w hw => by have h0 : w.cell? ⟨W.heap.size, 1, none⟩ = some (.int .i64 x) := hw; go_simp⟩) hS ?_
        refine wpAnyH_take (i := 16) (v := .pointer (some ⟨B, 2, none⟩)) rfl (by kernel_rfl) (by kernel_rfl) (by kernel_rfl) (fun _ _ _ h => h) (Or.inl ⟨by rfl, fun w hw => by have h0 : w.cell? ⟨W.heap.size, 1, none⟩ = some (.int .i64 x) := hw; go_simp⟩) hS ?_
        refine wpAnyH_ready (rs := [17]) (by kernel_rfl) (by simp) ?_
        refine AllReadyH.cons rfl (fun K hK => ?_) AllReadyH.nil
        go_simp
        refine hK.out _ _ ((World.cell?_setCell_other _ _ _ _ (by simp)).trans k1) fun hS => ?_
        refine wpAnyH_done (by kernel_rfl) ?_ _
        go_end0
        exact ⟨rfl, HEND.out g6 c6 w6 r6 G6⟩
end Go.Proofs.YtefdokkadckbbaaGreatDoor
