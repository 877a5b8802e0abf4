/- lentRecords. -/
import Derived.Test.YtefdokkadckbbaaDoorD1
namespace Go.Proofs.YtefdokkadckbbaaDoor
open Go.RowKit
set_option maxRecDepth 100000

def mark (t : Int) : Rec := ⟨⟨#[]⟩, t, 0, 0, ⟨#[]⟩⟩
/-- A list to hand over: the records, and two marks in its spare room. -/
def Lent (w : World) (v : Value) (rs : List Rec) : Prop :=
  ∃ g, v = .slice (some ⟨g, 0, none⟩) rs.length (rs.length + 2) ∧ g < w.heap.size ∧ ∀ j r, (rs ++ [mark (-7), mark (-8)])[j]? = some r → RecAt w g (0 + j * 5) r
theorem Lent.below {w w' : World} {v : Value} {rs : List Rec} (h : Lent w v rs) (hb : Below w.heap.size w w') : Lent w' v rs := by
  obtain ⟨g, hv, hg, hr⟩ := h
  exact ⟨g, hv, Nat.lt_of_lt_of_le hg hb.size, fun j r hj => (hr j r hj).below hb hg⟩
theorem Lent.recs {w : World} {v : Value} {rs : List Rec} (h : Lent w v rs) : RecSl w v rs := by
  obtain ⟨g, hv, hg, hr⟩ := h
  refine ⟨_, _, hv, .inr ⟨g, 0, rfl, hg, by omega, fun j r hj => hr j r ?_⟩⟩
  rw [List.getElem?_append_left (List.getElem?_eq_some_iff.1 hj).1]; exact hj

theorem info91 : (Tryd.prog.info? 40).map (fun i => (i.zero, i.size, i.bytes)) = some (some (.agg #[.string ByteArray.empty, .int .i64 0, .int .i64 0, .int .i64 0, .string ByteArray.empty]), 5, 56) := by kernel_rfl
theorem u39 : Tryd.prog.underlying 25 = some (.slice 40) := by kernel_rfl
theorem size91 : (Tryd.prog.info? 40).map (·.size) = some 5 := by kernel_rfl

theorem owns_block {w0 : World} {base g e size n cap : Nat} {xs : List Value} (h : w0.ownsRow base e size (.slice (some ⟨g, 0, none⟩) n cap) n xs) : ∃ cur, w0.heap[g]? = some (.cells cur e (0, 0)) ∧ cur.size = cap * size := by
  obtain ⟨_, ⟨h, _⟩ | ⟨g', cap', cur, hv, _, hh, _, _, hc, _⟩⟩ := h
  · cases h
  · simp only [Value.slice.injEq, Option.some.injEq, Addr.mk.injEq, and_true, true_and] at hv
    obtain ⟨rfl, rfl⟩ := hv
    exact ⟨cur, hh, hc⟩
theorem src_below {w w0 : World} {rs : List Rec} {ad : Addr} (h : ∀ j v, (rcells rs)[j]? = some v → w.cell? (ad.add j) = some v) (hl : rs.length ≠ 0 → ad.block < w.heap.size) (hb : Below w.heap.size w w0) :
    ∀ j v, (rcells rs)[j]? = some v → w0.cell? (ad.add j) = some v := by
  intro j v hj
  have hne : rs.length ≠ 0 := by
    intro e
    have := List.length_eq_zero_iff.1 e
    subst this
    simp [rcells] at hj
  have hbk : (ad.add j).block = ad.block := by unfold Addr.add; split <;> rfl
  rw [hb.cell (p := ad.add j) (by rw [hbk]; exact hl hne)]
  exact h j v hj

theorem cell_blk {w : World} {g i : Nat} {cur : Array Value} {t : TypeId} {fr : Nat × Nat} (h : w.heap[g]? = some (.cells cur t fr)) : w.cell? ⟨g, i, none⟩ = cur[i]? := by
  simp [World.cell?, h]
theorem lent_cells {rs : List Rec} {cur cur1 cur2 cur3 : Array Value} (hc : cur.size = (rs.length + 2) * 5) (h1 : cur1 = (splice cur.toList 0 (rcells rs)).toArray)
    (h2 : cur2 = (splice cur1.toList (rs.length * 5) (rc1 (mark (-7)))).toArray) (h3 : cur3 = (splice cur2.toList ((rs.length + 1) * 5) (rc1 (mark (-8)))).toArray) :
    cur3 = (rcells (rs ++ [mark (-7), mark (-8)])).toArray := by
  have hZ : cur.toList.length = (rcells rs).length + (rc1 (mark (-7))).length + (rc1 (mark (-8))).length := by rw [rcells_length]; simp [rc1]; omega
  have := splice_splice_splice cur.toList (rcells rs) (rc1 (mark (-7))) (rc1 (mark (-8))) (rs.length * 5) 5 (rcells_length rs) rfl (by rw [hZ, rcells_length]; rfl)
  rw [h3, h2, h1]
  simp only
  rw [show (rs.length + 1) * 5 = rs.length * 5 + 5 by omega, this, rcells_append]
  simp [rcells]

end Go.Proofs.YtefdokkadckbbaaDoor
