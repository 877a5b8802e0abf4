/- Append onto a row that keeps the old one; the lists of a message that grows. -/
import Derived.Test.YtefdokkadckbbaaDoorV1
import Derived.Deep.AppendLies
namespace Go.Proofs.YtefdokkadckbbaaDoor
open Go.RowKit
set_option maxRecDepth 100000

theorem grown_trans {a b c : World} {r : Option Nat} (h : a.grownBy b r) (k : b.grownBy c r) : a.grownBy c r :=
  ⟨k.os.trans h.os, k.tape.trans h.tape, k.output.trans h.output, Nat.le_trans h.size k.size, fun j hj hr => (k.block j (Nat.lt_of_lt_of_le hj h.size) hr).trans (h.block j hj hr)⟩
theorem grown_refl (a : World) (r : Option Nat) : a.grownBy a r := ⟨rfl, rfl, rfl, Nat.le_refl _, fun _ _ _ => rfl⟩
theorem grown_none {a b : World} {r : Option Nat} (h : a.grownBy b none) : a.grownBy b r := ⟨h.os, h.tape, h.output, h.size, fun k hk _ => h.block k hk (by simp)⟩
theorem grown_drew {a b : World} {r : Option Nat} (h : a.grownBy b r) : a.grownBy b.drew r := ⟨h.os, h.tape, h.output, h.size, h.block⟩

/-- Where the new row lies: in the old one's block, or in a new one with all others as they were. -/
def Lies (w w' : World) (v : Value) (g : Nat) : Prop := w.grownBy w' v.ownBlock ∧ (v.ownBlock = some g ∨ (w.heap.size ≤ g ∧ w.grownBy w' none)) ∧ g < w'.heap.size

theorem run_append_two {P : Program} (w : World) (base : Nat) (t ty e : TypeId) (i : TypeInfo) (z : Value) (size bytes : Nat) (ht : P.underlying t = some (.slice e)) (hi : P.info? e = some i) (hz : i.zero = some z)
    (hsize : i.size = size) (hby : i.bytes = bytes) (hzs : z.cells.size = size)
    (v : Value) (n : Nat) (xs : List Value) (hown : w.ownsRow base e size v n xs)
    (a : Addr) (m c : Nat) (news : List Value) (hl : news.length = m * size) (hnews : ∀ j u, news[j]? = some u → w.cell? (a.add j) = some u) (h1 : ∀ u ∈ news, u.oneCell' = true)
    (hm : 0 < m) (h63 : n + m ≤ maxLen) (hbytes : (n + m) * bytes ≤ 140737488355328) (hbase : base ≤ w.heap.size) :
    ∃ g cap w', (Builtin.append_ #[t, t] ty #[v, .slice (some a) m c]).run P w = .ok (.slice (some ⟨g, 0, none⟩) (n + m) cap) w' ∧
      w'.ownsRow base e size (.slice (some ⟨g, 0, none⟩) (n + m) cap) (n + m) (xs ++ news) ∧ w'.ownsRow base e size v n xs ∧ Lies w w' v g := by
  subst hsize
  subst hby
  have hsm : n + m ≤ 9223372036854775807 := by simp only [maxLen] at h63; omega
  have hlen : (xs ++ news).length = (n + m) * i.size := by rw [List.length_append, hown.1, hl, Nat.add_mul]
  have fresh : ∀ (old : Nat) (cs : Array Value), cs = xs.toArray ++ news.toArray ++ Builtin.zeroCells z.cells (grownCap w (n + m) old e - (n + m)) →
      (w.drew.alloc (.cells cs e)).ownsRow base e i.size (.slice (some ⟨w.heap.size, 0, none⟩) (n + m) (grownCap w (n + m) old e)) (n + m) (xs ++ news) ∧
      (w.drew.alloc (.cells cs e)).ownsRow base e i.size v n xs ∧ Lies w (w.drew.alloc (.cells cs e)) v w.heap.size := by
    intro old cs hcs
    have hge := grownCap_ge w (n + m) old e
    have hcm := grownCap_le_maxLen w (n + m) old e h63
    have hg : w.grownBy (w.drew.alloc (.cells cs e)) none := ⟨rfl, rfl, rfl, by simp, fun k hk _ => Below.heap_alloc w.drew _ k hk⟩
    refine ⟨⟨hlen, .inr ⟨w.heap.size, _, cs, rfl, hbase, Go.heap_alloc_new w.drew _, hge, hcm, ?_, ?_⟩⟩, hown.kept hg (by cases v.ownBlock <;> simp), grown_none hg, .inr ⟨Nat.le_refl _, hg⟩, by simp⟩
    · rw [hcs]
      simp only [Array.size_append, List.size_toArray, size_zeroCells, hzs, hown.1, hl, ← Nat.add_mul]
      congr 1
      omega
    · rw [hcs]
      simp only [Array.toList_append]
      rw [← hlen]
      exact List.take_left
  rcases hown.2 with ⟨rfl, rfl⟩ | ⟨g, cap, cur, rfl, hbg, hg, hnc, hcm, hcs, htake⟩
  · obtain rfl : xs = [] := List.eq_nil_of_length_eq_zero (by simpa using hown.1)
    have hr := run_append_nil (P := P) w t ty e i z ht hi hz a m c news hl hnews hm (by omega) (by have hb := hbytes; simp only [Nat.zero_add] at hb; omega)
    have hf := fresh 0 (news.toArray ++ Builtin.zeroCells z.cells (grownCap w m 0 e - m)) (by simp)
    simp only [Nat.zero_add] at hf ⊢
    exact ⟨_, _, _, hr, hf⟩
  · by_cases hroom : n + m ≤ cap
    · have hfit : n * i.size + news.length ≤ cur.size := by rw [hl, hcs, ← Nat.add_mul]; exact Nat.mul_le_mul_right _ hroom
      have hr := run_append_room (P := P) w t ty e i ht hi g n cap cur hg a m c news hl hnews h1 hroom hfit
      have hsz : (cur.toList.take (n * i.size) ++ news ++ cur.toList.drop (n * i.size + news.length)).toArray.size = cap * i.size := by
        simp only [List.size_toArray, List.length_append, List.length_take, List.length_drop, Array.length_toList]
        omega
      have hgr : w.grownBy (w.setRow g (cur.toList.take (n * i.size) ++ news ++ cur.toList.drop (n * i.size + news.length)).toArray) (some g) := ⟨rfl, rfl, rfl, by simp, fun k _ hk => setRow_other w g k _ (fun e => hk (by simp [e]))⟩
      refine ⟨g, cap, _, hr, ⟨hlen, .inr ⟨g, cap, _, rfl, hbg, setRow_heap w g cur _ e _ hg, hroom, hcm, hsz, ?_⟩⟩, ⟨hown.1, .inr ⟨g, cap, _, rfl, hbg, setRow_heap w g cur _ e _ hg, hnc, hcm, hsz, ?_⟩⟩, hgr, .inl rfl, ?_⟩
      · rw [htake, ← hlen]
        exact List.take_left
      · simp only [htake, List.append_assoc]
        rw [← hown.1]
        exact List.take_left
      · have := (Array.getElem?_eq_some_iff.1 hg).1
        simpa using this
    · have holds : ∀ j u, xs[j]? = some u → w.cell? ((⟨g, 0, none⟩ : Addr).add j) = some u := hown.cells (g := g) rfl
      have hr := run_append_grow (P := P) w t ty e i z ht hi hz ⟨g, 0, none⟩ n cap xs hown.1 holds a m c news hl hnews (by omega) (by omega) (growslice_fits (by omega) hbytes)
      exact ⟨_, _, _, hr, fresh cap _ rfl⟩

theorem wp_append_two {P : Program} (w : World) {o : Oper} {a : Act} {K : Act → World → Prop} {Q : Exit → Act → World → Prop} (s x : Operand) (t : TypeId)
    (ho : o.op = .call { callee := .builtin .append, args := #[s, x], argTypes := #[t, t] })
    (base : Nat) (e : TypeId) (i : TypeInfo) (z : Value) (size bytes : Nat) (ht : P.underlying t = some (.slice e)) (hi : P.info? e = some i) (hz : i.zero = some z)
    (hsize : i.size = size) (hby : i.bytes = bytes) (hzs : z.cells.size = size)
    (v : Value) (n : Nat) (xs : List Value) (hs : a.eval s = v) (hown : w.ownsRow base e size v n xs)
    (ad : Addr) (m c : Nat) (news : List Value) (hx : a.eval x = .slice (some ad) m c) (hl : news.length = m * size) (hnews : ∀ j u, news[j]? = some u → w.cell? (ad.add j) = some u) (h1 : ∀ u ∈ news, u.oneCell' = true)
    (hm : 0 < m) (h63 : n + m ≤ maxLen) (hbytes : (n + m) * bytes ≤ 140737488355328) (hbase : base ≤ w.heap.size)
    (h : ∀ g cap w', w'.ownsRow base e size (.slice (some ⟨g, 0, none⟩) (n + m) cap) (n + m) (xs ++ news) → w'.ownsRow base e size v n xs → Lies w w' v g → K (a.put o.dst (.slice (some ⟨g, 0, none⟩) (n + m) cap)) w') : o.wp P a w K Q := by
  obtain ⟨g, cap, w', hr, h2, h3, h4⟩ := run_append_two (P := P) w base t o.type e i z size bytes ht hi hz hsize hby hzs v n xs hown ad m c news hl hnews h1 hm h63 hbytes hbase
  unfold Oper.wp execOp
  simp only [ho, resolve, invoke, builtin, Sem.run_bind, Sem.run_pure, Result.andThen_ok, List.map_toArray, List.map_cons, List.map_nil, hs, hx, hr]
  exact h g cap w' h2 h3 h4

theorem wpList_append_two {P : Program} (w : World) {ops : Array Oper} {rest : List Oper} {o : Oper} {a : Act} {Q : Exit → Act → World → Prop} (hgd : o.guard = none) (s x : Operand) (t : TypeId)
    (ho : o.op = .call { callee := .builtin .append, args := #[s, x], argTypes := #[t, t] })
    (base : Nat) (e : TypeId) (i : TypeInfo) (z : Value) (size bytes : Nat) (ht : P.underlying t = some (.slice e)) (hi : P.info? e = some i) (hz : i.zero = some z)
    (hsize : i.size = size) (hby : i.bytes = bytes) (hzs : z.cells.size = size)
    (v : Value) (n : Nat) (xs : List Value) (hs : a.eval s = v) (hown : w.ownsRow base e size v n xs)
    (ad : Addr) (m c : Nat) (news : List Value) (hx : a.eval x = .slice (some ad) m c) (hl : news.length = m * size) (hnews : ∀ j u, news[j]? = some u → w.cell? (ad.add j) = some u) (h1 : ∀ u ∈ news, u.oneCell' = true)
    (hm : 0 < m) (h63 : n + m ≤ maxLen) (hbytes : (n + m) * bytes ≤ 140737488355328) (hbase : base ≤ w.heap.size)
    (h : ∀ g cap w', w'.ownsRow base e size (.slice (some ⟨g, 0, none⟩) (n + m) cap) (n + m) (xs ++ news) → w'.ownsRow base e size v n xs → Lies w w' v g → wpList P ops Q rest (a.put o.dst (.slice (some ⟨g, 0, none⟩) (n + m) cap)) w') : wpList P ops Q (o :: rest) a w :=
  wpList_plain hgd fun _ hK => wp_append_two w s x t ho base e i z size bytes ht hi hz hsize hby hzs v n xs hs hown ad m c news hx hl hnews h1 hm h63 hbytes hbase fun g cap w' h2 h3 h4 => hK _ _ (h g cap w' h2 h3 h4)

/-- A row's block, of its kind. -/
theorem own_blk {w : World} {base e size n : Nat} {v : Value} {xs : List Value} (h : w.ownsRow base e size v n xs) {k : Nat} (hk : v.ownBlock = some k) : ∃ cur, w.heap[k]? = some (.cells cur e (0, 0)) := by
  rcases h.2 with ⟨rfl, _⟩ | ⟨g, cap, cur, rfl, _, hg, _⟩
  · simp [Value.ownBlock] at hk
  · simp [Value.ownBlock] at hk
    subst hk; exact ⟨cur, hg⟩
theorem kind_ne {w : World} {k k' e e' : Nat} {c c' : Array Value} (h : w.heap[k]? = some (.cells c e (0, 0))) (h' : w.heap[k']? = some (.cells c' e' (0, 0))) (hne : e ≠ e') : k ≠ k' := by
  rintro rfl
  rw [h] at h'
  simp at h'
  exact hne h'.2
theorem own_far {w : World} {base e size n k e' : Nat} {v : Value} {xs : List Value} {c : Array Value} (h : w.ownsRow base e size v n xs) (hk : w.heap[k]? = some (.cells c e' (0, 0))) (hne : e ≠ e') : some k ≠ v.ownBlock := by
  intro hv
  obtain ⟨cur, hc⟩ := own_blk h hv.symm
  exact kind_ne hc hk hne rfl
theorem own_apart {w : World} {b1 e1 s1 n1 b2 e2 s2 n2 : Nat} {v1 v2 : Value} {x1 x2 : List Value} (h1 : w.ownsRow b1 e1 s1 v1 n1 x1) (h2 : w.ownsRow b2 e2 s2 v2 n2 x2) (hne : e1 ≠ e2) : v1.ownBlock = none ∨ v1.ownBlock ≠ v2.ownBlock := by
  cases hv : v1.ownBlock with
  | none => exact .inl rfl
  | some k =>
    obtain ⟨cur, hc⟩ := own_blk h1 hv
    exact .inr (own_far h2 hc (Ne.symm hne))


theorem blk_old {w : World} {b : Nat} {X : Obj} (h : w.heap[b]? = some X) (o : Obj) : (w.alloc o).heap[b]? = some X := by
  rw [Below.heap_alloc w o b (Array.getElem?_eq_some_iff.1 h).1]; exact h
theorem blk_below {w w' : World} {b : Nat} {X : Obj} (h : w.heap[b]? = some X) (hb : Below w.heap.size w w') : w'.heap[b]? = some X := by
  rw [hb.block b (Array.getElem?_eq_some_iff.1 h).1]; exact h

/-- The boxes of lying while its message grows. -/
structure Ly (w wr : World) (R : Nat) (A0 A1 A2 : Array Value) (id code : Int) (nm : ByteArray) (ty : Int) (va vs vm : Value) (la ls lm : List Rec) (k : Nat) : Prop where
  bel : Below w.heap.size w wr
  b0 : wr.heap[w.heap.size]? = some (.cells A0 24 (0, 0))
  b1 : wr.heap[w.heap.size + 1]? = some (.cells A1 27 (0, 0))
  b2 : wr.heap[w.heap.size + 1 + 1]? = some (.cells A2 27 (0, 0))
  b3 : wr.heap[w.heap.size + 1 + 1 + 1]? = some nmsO
  bR : wr.heap[R]? = some (.cells #[.int .i64 id, .bool true, .int .i64 code, .string nm, .int .i64 ty, va, vs, vm] 27 (0, 0))
  hR : R = w.heap.size + 4
  a : wr.ownsRow (R + 1) 40 5 va la.length (rcells la)
  s : wr.ownsRow (R + 1) 40 5 vs ls.length (rcells ls)
  m : wr.ownsRow (R + 1) 40 5 vm lm.length (rcells lm)
  das : ∀ g, va.ownBlock = some g → vs.ownBlock ≠ some g
  dam : ∀ g, va.ownBlock = some g → vm.ownBlock ≠ some g
  dsm : ∀ g, vs.ownBlock = some g → vm.ownBlock ≠ some g
  oa : la.all recOk = true
  os : ls.all recOk = true
  om : lm.all recOk = true
  n : la.length + ls.length + lm.length ≤ k

theorem Ly.fresh {w wr w' : World} {R : Nat} {A0 A1 A2 : Array Value} {id code : Int} {nm : ByteArray} {ty : Int} {va vs vm : Value} {la ls lm : List Rec} {k : Nat} (h : Ly w wr R A0 A1 A2 id code nm ty va vs vm la ls lm k) (hb : Below wr.heap.size wr w') : Ly w w' R A0 A1 A2 id code nm ty va vs vm la ls lm k :=
  ⟨h.bel.trans (hb.mono h.bel.size), blk_below h.b0 hb, blk_below h.b1 hb, blk_below h.b2 hb, blk_below h.b3 hb, blk_below h.bR hb, h.hR, h.a.below hb, h.s.below hb, h.m.below hb, h.das, h.dam, h.dsm, h.oa, h.os, h.om, h.n⟩
theorem own_grown {w w' : World} {b e s n : Nat} {v : Value} {xs : List Value} {r : Option Nat} (h : w.ownsRow b e s v n xs) (hg : w.grownBy w' r) (hne : ∀ g, v.ownBlock = some g → r ≠ some g) : w'.ownsRow b e s v n xs :=
  h.kept hg (by cases hv : v.ownBlock with
    | none => exact .inl rfl
    | some g => exact .inr fun e => hne g hv e.symm)
theorem box_grown {w w' : World} {R b n : Nat} {v : Value} {xs : List Value} {X : Obj} (h : w.heap[b]? = some X) (hr : w.ownsRow (R + 1) 40 5 v n xs) (hb : b ≤ R) (hg : w.grownBy w' v.ownBlock) : w'.heap[b]? = some X := by
  rw [hg.block b (Array.getElem?_eq_some_iff.1 h).1 (fun e => by have := (hr.lt b e.symm).1; omega)]; exact h
theorem own_set {w : World} {R k b n : Nat} {u v : Value} {xs : List Value} (h : w.ownsRow (R + 1) 40 5 v n xs) (hb : b ≤ R) : (w.setCell ⟨b, k, none⟩ u).ownsRow (R + 1) 40 5 v n xs := ownsRow_setCell_below h (a := ⟨b, k, none⟩) (by show b < R + 1; omega) u
theorem box_set {w : World} {R k b : Nat} {u : Value} {X : Obj} (h : w.heap[b]? = some X) (hb : b ≠ R) : (w.setCell ⟨R, k, none⟩ u).heap[b]? = some X := by rw [Below.heap_setCell w ⟨R, k, none⟩ u b hb]; exact h
theorem bel_set {w0 w : World} {B R k : Nat} {u : Value} (h : Below B w0 w) (hB : B ≤ R) : Below B w0 (w.setCell ⟨R, k, none⟩ u) := h.setCell hB u

theorem Ly.app_a {w wr w' : World} {R g cap : Nat} {A0 A1 A2 : Array Value} {id code : Int} {nm : ByteArray} {ty : Int} {va vs vm : Value} {la ls lm : List Rec} {k : Nat} {r : Rec} (h : Ly w wr R A0 A1 A2 id code nm ty va vs vm la ls lm k) (hok : recOk r = true)
    (hG : wr.grownBy w' va.ownBlock) (hat : va.ownBlock = some g ∨ wr.heap.size ≤ g) (hr : w'.ownsRow (R + 1) 40 5 (.slice (some ⟨g, 0, none⟩) (la.length + 1) cap) (la.length + 1) (rcells la ++ rc1 r)) :
    Ly w (w'.setCell ⟨R, 5, none⟩ (.slice (some ⟨g, 0, none⟩) (la.length + 1) cap)) R A0 A1 A2 id code nm ty (.slice (some ⟨g, 0, none⟩) (la.length + 1) cap) vs vm (la ++ [r]) ls lm (k + 1) := by
  have hR := h.hR
  have hn := h.n
  have hz := h.bel.size
  refine ⟨bel_set (h.bel.grown hG (by omega) fun b e => by have := (h.a.lt b e).1; omega) (by omega), box_set (box_grown h.b0 h.a (by omega) hG) (by omega), box_set (box_grown h.b1 h.a (by omega) hG) (by omega), box_set (box_grown h.b2 h.a (by omega) hG) (by omega), box_set (box_grown h.b3 h.a (by omega) hG) (by omega), ?_, hR, own_set (by rw [List.length_append, rcells_append]; simpa [rcells] using hr) (Nat.le_refl R), own_set (own_grown h.s hG (fun g hs ha => h.das g ha hs)) (Nat.le_refl R), own_set (own_grown h.m hG (fun g hm ha => h.dam g ha hm)) (Nat.le_refl R), fun g0 e e2 => by simp [Value.ownBlock] at e; subst e; rcases hat with ha | ha; exact h.das _ ha e2; exact absurd (h.s.lt _ e2).2 (by omega), fun g0 e e2 => by simp [Value.ownBlock] at e; subst e; rcases hat with ha | ha; exact h.dam _ ha e2; exact absurd (h.m.lt _ e2).2 (by omega), h.dsm, by rw [List.all_append, h.oa]; simp [hok], h.os, h.om, by simp only [List.length_append, List.length_cons, List.length_nil]; omega⟩
  rw [heap_setCell_same w' R 5 _ 27 _ (box_grown h.bR h.a (Nat.le_refl R) hG)]
  simp

theorem Ly.app_s {w wr w' : World} {R g cap : Nat} {A0 A1 A2 : Array Value} {id code : Int} {nm : ByteArray} {ty : Int} {va vs vm : Value} {la ls lm : List Rec} {k : Nat} {r : Rec} (h : Ly w wr R A0 A1 A2 id code nm ty va vs vm la ls lm k) (hok : recOk r = true)
    (hG : wr.grownBy w' vs.ownBlock) (hat : vs.ownBlock = some g ∨ wr.heap.size ≤ g) (hr : w'.ownsRow (R + 1) 40 5 (.slice (some ⟨g, 0, none⟩) (ls.length + 1) cap) (ls.length + 1) (rcells ls ++ rc1 r)) :
    Ly w (w'.setCell ⟨R, 6, none⟩ (.slice (some ⟨g, 0, none⟩) (ls.length + 1) cap)) R A0 A1 A2 id code nm ty va (.slice (some ⟨g, 0, none⟩) (ls.length + 1) cap) vm la (ls ++ [r]) lm (k + 1) := by
  have hR := h.hR
  have hn := h.n
  have hz := h.bel.size
  refine ⟨bel_set (h.bel.grown hG (by omega) fun b e => by have := (h.s.lt b e).1; omega) (by omega), box_set (box_grown h.b0 h.s (by omega) hG) (by omega), box_set (box_grown h.b1 h.s (by omega) hG) (by omega), box_set (box_grown h.b2 h.s (by omega) hG) (by omega), box_set (box_grown h.b3 h.s (by omega) hG) (by omega), ?_, hR, own_set (own_grown h.a hG (fun g ha hs => h.das g ha hs)) (Nat.le_refl R), own_set (by rw [List.length_append, rcells_append]; simpa [rcells] using hr) (Nat.le_refl R), own_set (own_grown h.m hG (fun g hm hs => h.dsm g hs hm)) (Nat.le_refl R), fun g0 e e2 => by simp [Value.ownBlock] at e2; subst e2; rcases hat with ha | ha; exact h.das _ e ha; exact absurd (h.a.lt _ e).2 (by omega), h.dam, fun g0 e e2 => by simp [Value.ownBlock] at e; subst e; rcases hat with ha | ha; exact h.dsm _ ha e2; exact absurd (h.m.lt _ e2).2 (by omega), h.oa, by rw [List.all_append, h.os]; simp [hok], h.om, by simp only [List.length_append, List.length_cons, List.length_nil]; omega⟩
  rw [heap_setCell_same w' R 6 _ 27 _ (box_grown h.bR h.s (Nat.le_refl R) hG)]
  simp

theorem Ly.app_m {w wr w' : World} {R g cap : Nat} {A0 A1 A2 : Array Value} {id code : Int} {nm : ByteArray} {ty : Int} {va vs vm : Value} {la ls lm : List Rec} {k : Nat} {r : Rec} (h : Ly w wr R A0 A1 A2 id code nm ty va vs vm la ls lm k) (hok : recOk r = true)
    (hG : wr.grownBy w' vm.ownBlock) (hat : vm.ownBlock = some g ∨ wr.heap.size ≤ g) (hr : w'.ownsRow (R + 1) 40 5 (.slice (some ⟨g, 0, none⟩) (lm.length + 1) cap) (lm.length + 1) (rcells lm ++ rc1 r)) :
    Ly w (w'.setCell ⟨R, 7, none⟩ (.slice (some ⟨g, 0, none⟩) (lm.length + 1) cap)) R A0 A1 A2 id code nm ty va vs (.slice (some ⟨g, 0, none⟩) (lm.length + 1) cap) la ls (lm ++ [r]) (k + 1) := by
  have hR := h.hR
  have hn := h.n
  have hz := h.bel.size
  refine ⟨bel_set (h.bel.grown hG (by omega) fun b e => by have := (h.m.lt b e).1; omega) (by omega), box_set (box_grown h.b0 h.m (by omega) hG) (by omega), box_set (box_grown h.b1 h.m (by omega) hG) (by omega), box_set (box_grown h.b2 h.m (by omega) hG) (by omega), box_set (box_grown h.b3 h.m (by omega) hG) (by omega), ?_, hR, own_set (own_grown h.a hG (fun g ha hm => h.dam g ha hm)) (Nat.le_refl R), own_set (own_grown h.s hG (fun g hs hm => h.dsm g hs hm)) (Nat.le_refl R), own_set (by rw [List.length_append, rcells_append]; simpa [rcells] using hr) (Nat.le_refl R), h.das, fun g0 e e2 => by simp [Value.ownBlock] at e2; subst e2; rcases hat with ha | ha; exact h.dam _ e ha; exact absurd (h.a.lt _ e).2 (by omega), fun g0 e e2 => by simp [Value.ownBlock] at e2; subst e2; rcases hat with ha | ha; exact h.dsm _ e ha; exact absurd (h.s.lt _ e).2 (by omega), h.oa, h.os, by rw [List.all_append, h.om]; simp [hok], by simp only [List.length_append, List.length_cons, List.length_nil]; omega⟩
  rw [heap_setCell_same w' R 7 _ 27 _ (box_grown h.bR h.m (Nat.le_refl R) hG)]
  simp
end Go.Proofs.YtefdokkadckbbaaDoor
