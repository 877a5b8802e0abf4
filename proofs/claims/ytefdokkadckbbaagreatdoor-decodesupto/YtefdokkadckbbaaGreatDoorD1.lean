/- Laws for rows of records: copy, a store; lentRecords. -/
import Derived.Test.YtefdokkadckbbaaGreatDoorB6
import Derived.Laws.CopyOwn
import Derived.Deep.MidRow
namespace Go.Proofs.YtefdokkadckbbaaGreatDoor
open Go.RowKit
set_option maxRecDepth 100000

/-- 'copy' of elements of several cells into a row of the call's own. -/
theorem wpList_copyK {P : Program} {w : World} {ops : Array Oper} {rest : List Oper} {o : Oper} {a : Act} {Q : Exit → Act → World → Prop} (hgd : o.guard = none) (d s : Operand) (dT sT : TypeId)
    (ho : o.op = .call { callee := .builtin .copy, args := #[d, s], argTypes := #[dT, sT] }) (elem : TypeId) (size : Nat) (hu : P.underlying dT = some (.slice elem)) (hsz : (P.info? elem).map (·.size) = some size)
    (ad : Addr) (dLen dCap sLen sCap : Nat) (g : Nat) (hd : a.eval d = .slice (some ⟨g, 0, none⟩) dLen dCap) (hs : a.eval s = .slice (some ad) sLen sCap)
    (cur : Array Value) (t : TypeId) (hg : w.heap[g]? = some (.cells cur t (0, 0))) (cs : List Value) (hle : sLen ≤ dLen) (hn : cs.length = sLen * size)
    (hsrc : ∀ j v, cs[j]? = some v → w.cell? (ad.add j) = some v) (hfit : cs.length ≤ cur.size) (h1 : ∀ v ∈ cs, v.oneCell' = true) (B : Nat) (w0 : World) (hb : Below B w0 w) (hBg : B ≤ g)
    (h : ∀ w' cur', Hid (w'.heap[g]? = some (.cells cur' t (0, 0))) → Hid (cur' = (splice cur.toList 0 cs).toArray) → Below B w0 w' → wpList P ops Q rest (a.put o.dst (goInt sLen)) w') :
    wpList P ops Q (o :: rest) a w := by
  refine wpList_plain hgd fun K hK => ?_
  have hl := run_loadCells_list (P := P) w ad cs hsrc
  have hst := run_storeCells_at P g 0 t cs 0 cur w hg (by simpa using hfit) h1
  have hmin : Nat.min sLen dLen = sLen := Nat.min_eq_left hle
  have hrun : (Builtin.copy_ #[dT, sT] o.type #[.slice (some ⟨g, 0, none⟩) dLen dCap, .slice (some ad) sLen sCap]).run P w =
      .ok (goInt sLen) (w.setRow g (splice cur.toList 0 cs).toArray) := by
    cases hq : P.info? elem with
    | none => simp [hq] at hsz
    | some i =>
      have hi : i.size = size := by simpa [hq] using hsz
      rw [hn] at hl
      simp only [Nat.add_zero] at hst
      simp [Builtin.copy_, run_underlying hu, Builtin.lenOf, Builtin.firstCells, sizeOf, typeInfo, hq, hi, hmin, hl, hst, splice]
  unfold Oper.wp
  simp [execOp, ho, resolve, invoke, builtin, hd, hs, hrun, Result.andThen]
  exact hK _ _ (h _ _ (setRow_heap w g cur _ t _ hg) rfl (below_setRow hb hBg _))

/-- A store of several cells into a row of the call's own. -/
theorem wpList_storeK {P : Program} {w : World} {ops : Array Oper} {rest : List Oper} {o : Oper} {a : Act} {Q : Exit → Act → World → Prop} (hgd : o.guard = none) (ty : TypeId) (x y : Operand) (ho : o.op = .store ty x y)
    (g off : Nat) (cells : Array Value) (hx : a.eval x = .pointer (some ⟨g, off, none⟩)) (hy : a.eval y = .agg cells)
    (cur : Array Value) (t : TypeId) (hg : w.heap[g]? = some (.cells cur t (0, 0))) (hfit : off + cells.size ≤ cur.size) (hi : (P.info? ty).map (·.size) = some cells.size) (h1 : ∀ v ∈ cells.toList, v.oneCell' = true)
    (B : Nat) (w0 : World) (hb : Below B w0 w) (hBg : B ≤ g)
    (h : ∀ w' cur', Hid (w'.heap[g]? = some (.cells cur' t (0, 0))) → Hid (cur' = (splice cur.toList off cells.toList).toArray) → Below B w0 w' → wpList P ops Q rest (a.put o.dst undef) w') :
    wpList P ops Q (o :: rest) a w := by
  refine wpList_plain hgd fun K hK => ?_
  have hst := run_storeCells_at P g off t cells.toList 0 cur w hg (by simpa using hfit) h1
  simp only [Nat.add_zero] at hst
  have hrun : (storeVar ty ⟨g, off, none⟩ (.agg cells)).run P w = .ok () (w.setRow g (splice cur.toList off cells.toList).toArray) := by
    cases hq : P.info? ty with
    | none => simp [hq] at hi
    | some i =>
      have hs : cells.size = i.size := by simp [hq] at hi; omega
      simp [storeVar, sizeOf, typeInfo, hq, Value.cells, hs, hst, splice]
  unfold Oper.wp execOp
  simp only [ho, hx, hy, Instr.storeAt, Instr.sureAddr, Sem.run_bind, Sem.run_pure, Result.andThen_ok, hrun]
  exact hK _ _ (h _ _ (setRow_heap w g cur _ t _ hg) rfl (below_setRow hb hBg _))

/-- The cells of a record, of records. -/
def rc1 (r : Rec) : List Value := [.string r.name, .int .i64 r.ty, .int .i64 r.ttl, .int .i64 r.num, .string r.target]
def rcells : List Rec → List Value
  | [] => []
  | r :: l => rc1 r ++ rcells l
theorem rcells_length (rs : List Rec) : (rcells rs).length = rs.length * 5 := by
  induction rs with
  | nil => rfl
  | cons r l ih => simp [rcells, rc1, ih]; omega
theorem rcells_append (a b : List Rec) : rcells (a ++ b) = rcells a ++ rcells b := by
  induction a with
  | nil => rfl
  | cons r l ih => simp [rcells, ih]
theorem rc1_one (r : Rec) : ∀ v ∈ rc1 r, v.oneCell' = true := by
  intro v hv; simp [rc1] at hv; rcases hv with rfl | rfl | rfl | rfl | rfl <;> rfl
theorem rcells_one (rs : List Rec) : ∀ v ∈ rcells rs, v.oneCell' = true := by
  induction rs with
  | nil => simp [rcells]
  | cons r l ih =>
    intro v hv
    rcases List.mem_append.1 hv with h | h
    · exact rc1_one r v h
    · exact ih v h

/-- Cells that lie as the records' cells are those records. -/
theorem recs_of_cells {w : World} {g : Nat} : ∀ (rs : List Rec) (o : Nat), (∀ i v, (rcells rs)[i]? = some v → w.cell? ⟨g, o + i, none⟩ = some v) → ∀ j r, rs[j]? = some r → RecAt w g (o + j * 5) r := by
  intro rs
  induction rs with
  | nil => intro o _ j r hj; simp at hj
  | cons x l ih =>
    intro o h j r hj
    cases j with
    | zero =>
      simp at hj; subst hj
      rw [Nat.zero_mul, Nat.add_zero]
      exact ⟨h 0 _ rfl, h 1 _ rfl, h 2 _ rfl, h 3 _ rfl, h 4 _ rfl⟩
    | succ j =>
      have := ih (o + 5) (fun i v hv => by
        have := h (5 + i) v (by
          show (rc1 x ++ rcells l)[5 + i]? = some v
          rw [List.getElem?_append_right (by simp [rc1])]
          simpa [rc1] using hv)
        rw [Nat.add_assoc]; exact this) j r (by simpa using hj)
      rw [show o + (j + 1) * 5 = o + 5 + j * 5 by omega]
      exact this
theorem cells_of_recs {w : World} {g : Nat} : ∀ (rs : List Rec) (o : Nat), (∀ j r, rs[j]? = some r → RecAt w g (o + j * 5) r) → ∀ i v, (rcells rs)[i]? = some v → w.cell? ⟨g, o + i, none⟩ = some v := by
  intro rs
  induction rs with
  | nil => intro o _ i v hi; simp [rcells] at hi
  | cons x l ih =>
    intro o h i v hi
    by_cases h5 : i < 5
    · have h0 := h 0 x rfl
      rw [Nat.zero_mul, Nat.add_zero] at h0
      obtain ⟨a0, a1, a2, a3, a4⟩ := h0
      have hi' : (rc1 x)[i]? = some v := by
        rw [show rcells (x :: l) = rc1 x ++ rcells l from rfl, List.getElem?_append_left (by simpa [rc1] using h5)] at hi
        exact hi
      match i, h5 with
      | 0, _ => simp [rc1] at hi'; subst hi'; exact a0
      | 1, _ => simp [rc1] at hi'; subst hi'; exact a1
      | 2, _ => simp [rc1] at hi'; subst hi'; exact a2
      | 3, _ => simp [rc1] at hi'; subst hi'; exact a3
      | 4, _ => simp [rc1] at hi'; subst hi'; exact a4
    · obtain ⟨k, rfl⟩ : ∃ k, i = 5 + k := ⟨i - 5, by omega⟩
      have := ih (o + 5) (fun j r hj => by
        have := h (j + 1) r (by simpa using hj)
        rw [show o + (j + 1) * 5 = o + 5 + j * 5 by omega] at this
        exact this) k v (by
          rw [show rcells (x :: l) = rc1 x ++ rcells l from rfl, List.getElem?_append_right (by simp [rc1])] at hi
          simpa [rc1] using hi)
      rw [← Nat.add_assoc]; exact this
end Go.Proofs.YtefdokkadckbbaaGreatDoor
