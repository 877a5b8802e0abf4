/- lentRecords. -/
import Derived.Test.YtefdokkadckbbaaGreatDoorD1
namespace Go.Proofs.YtefdokkadckbbaaGreatDoor
open Go.RowKit
set_option maxRecDepth 100000

def mark (t : Int) : Rec := ⟨⟨#[]⟩, t, 0, 0, ⟨#[]⟩⟩
/-- A list to hand over: the records, and two marks in its spare room. -/
def Lent (w : World) (v : Value) (rs : List Rec) : Prop :=
  ∃ g, v = .slice (some ⟨g, 0, none⟩) rs.length (rs.length + 2) ∧ g < w.heap.size ∧ ∀ j r, (rs ++ [mark (-7), mark (-8)])[j]? = some r → RecAt w g (0 + j * 5) r
theorem Lent.below {w w' : World} {v : Value} {rs : List Rec} (h : Lent w v rs) (hb : Below w.heap.size w w') : Lent w' v rs := by
  obtain ⟨g, hv, hg, hr⟩ := h
  exact ⟨g, hv, Nat.lt_of_lt_of_le hg hb.size, fun j r hj => (hr j r hj).below hb hg⟩
theorem Lent.recs {w : World} {v : Value} {rs : List Rec} (h : Lent w v rs) : RecSl w v rs := by
  obtain ⟨g, hv, hg, hr⟩ := h
  refine ⟨_, _, hv, .inr ⟨g, 0, rfl, hg, by omega, fun j r hj => hr j r ?_⟩⟩
  rw [List.getElem?_append_left (List.getElem?_eq_some_iff.1 hj).1]; exact hj

theorem info91 : (Tryz.prog.info? 71).map (fun i => (i.zero, i.size, i.bytes)) = some (some (.agg #[.string ByteArray.empty, .int .i64 0, .int .i64 0, .int .i64 0, .string ByteArray.empty]), 5, 56) := by kernel_rfl
theorem u39 : Tryz.prog.underlying 25 = some (.slice 71) := by kernel_rfl
theorem size91 : (Tryz.prog.info? 71).map (·.size) = some 5 := by kernel_rfl

set_option maxHeartbeats 1000000 in
theorem lent_nil (w : World) : Calls Tryz.prog 123 #[.slice none 0 0] w fun e w' => e = .returned (.slice none 0 0) ∧ w' = w := by
  have hq := fun w => Lib.run_eql_slice_nil (P := Tryz.prog) w 25 71 none 0 0 0 0 u39
  go_enter Tryz.func123, Tryz.ntmps123
  go_wp2
  go_ret
  exact ⟨rfl, rfl⟩

theorem owns_block {w0 : World} {base g e size n cap : Nat} {xs : List Value} (h : w0.ownsRow base e size (.slice (some ⟨g, 0, none⟩) n cap) n xs) : ∃ cur, w0.heap[g]? = some (.cells cur e (0, 0)) ∧ cur.size = cap * size := by
  obtain ⟨_, ⟨h, _⟩ | ⟨g', cap', cur, hv, _, hh, _, _, hc, _⟩⟩ := h
  · cases h
  · simp only [Value.slice.injEq, Option.some.injEq, Addr.mk.injEq, and_true, true_and] at hv
    obtain ⟨rfl, rfl⟩ := hv
    exact ⟨cur, hh, hc⟩
theorem src_below {w w0 : World} {rs : List Rec} {ad : Addr} (h : ∀ j v, (rcells rs)[j]? = some v → w.cell? (ad.add j) = some v) (hl : rs.length ≠ 0 → ad.block < w.heap.size) (hb : Below w.heap.size w w0) :
    ∀ j v, (rcells rs)[j]? = some v → w0.cell? (ad.add j) = some v := by
  intro j v hj
  have hne : rs.length ≠ 0 := by
    intro e
    have := List.length_eq_zero_iff.1 e
    subst this
    simp [rcells] at hj
  have hbk : (ad.add j).block = ad.block := by unfold Addr.add; split <;> rfl
  rw [hb.cell (p := ad.add j) (by rw [hbk]; exact hl hne)]
  exact h j v hj

theorem cell_blk {w : World} {g i : Nat} {cur : Array Value} {t : TypeId} {fr : Nat × Nat} (h : w.heap[g]? = some (.cells cur t fr)) : w.cell? ⟨g, i, none⟩ = cur[i]? := by
  simp [World.cell?, h]
theorem lent_cells {rs : List Rec} {cur cur1 cur2 cur3 : Array Value} (hc : cur.size = (rs.length + 2) * 5) (h1 : cur1 = (splice cur.toList 0 (rcells rs)).toArray)
    (h2 : cur2 = (splice cur1.toList (rs.length * 5) (rc1 (mark (-7)))).toArray) (h3 : cur3 = (splice cur2.toList ((rs.length + 1) * 5) (rc1 (mark (-8)))).toArray) :
    cur3 = (rcells (rs ++ [mark (-7), mark (-8)])).toArray := by
  have hZ : cur.toList.length = (rcells rs).length + (rc1 (mark (-7))).length + (rc1 (mark (-8))).length := by rw [rcells_length]; simp [rc1]; omega
  have := splice_splice_splice cur.toList (rcells rs) (rc1 (mark (-7))) (rc1 (mark (-8))) (rs.length * 5) 5 (rcells_length rs) rfl (by rw [hZ, rcells_length]; rfl)
  rw [h3, h2, h1]
  simp only
  rw [show (rs.length + 1) * 5 = rs.length * 5 + 5 by omega, this, rcells_append]
  simp [rcells]

set_option maxHeartbeats 2000000 in
theorem lent_some (ad : Addr) (c : Nat) (rs : List Rec) (w : World) (hN : rs.length ≤ 1048576) (hsrc : ∀ j v, (rcells rs)[j]? = some v → w.cell? (ad.add j) = some v) (hlt : rs.length ≠ 0 → ad.block < w.heap.size) :
    Calls Tryz.prog 123 #[.slice (some ad) rs.length c] w fun e w' => ∃ v, e = .returned v ∧ (∃ g, v = .slice (some ⟨g, 0, none⟩) rs.length (rs.length + 2) ∧ g < w'.heap.size ∧ w.heap.size ≤ g ∧ ∀ j r, (rs ++ [mark (-7), mark (-8)])[j]? = some r → RecAt w' g (0 + j * 5) r) ∧ Below w.heap.size w w' := by
  obtain ⟨i0, hi, hz0, hz1, hz2⟩ := info_parts info91
  have hq := fun w => Lib.run_eql_slice_nil (P := Tryz.prog) w 25 71 (some ad) rs.length c 0 0 u39
  have HS : Hid (∀ j v, (rcells rs)[j]? = some v → w.cell? (ad.add j) = some v) := hsrc
  have HL : Hid (rs.length ≠ 0 → ad.block < w.heap.size) := hlt
  clear hsrc hlt
  go_enter Tryz.func123, Tryz.ntmps123
  go_wp2_with (at_make; refine wpList_make_full _ rfl _ _ 25 rfl w.heap.size 71 i0 (.agg #[.string ByteArray.empty, .int .i64 0, .int .i64 0, .int .i64 0, .string ByteArray.empty]) 5 u39 hi hz0 hz1 _ _ _ _ (rs.length + 2) rfl rfl (by omega) (by omega) ?b2 ?b3 (Nat.le_refl _) ?_)
  case b2 => rw [hz2]; omega
  case b3 => unfold maxLen; omega
  intro w0 hown0 hgrow0
  have hB0 : Below w.heap.size w w0 := (Below.refl _ _).grown hgrow0 (Nat.le_refl _) (fun k h => by cases h)
  obtain ⟨cur, hblk, hcur⟩ := owns_block hown0
  have hsrc0 := src_below HS.out HL.out hB0
  have HS0 : Hid (∀ j v, (rcells rs)[j]? = some v → w0.cell? (ad.add j) = some v) := hsrc0
  have HB : Hid (w0.heap[w.heap.size]? = some (.cells cur 71 (0, 0))) := hblk
  have hrl := rcells_length rs
  clear hown0 hgrow0 hsrc0 hblk
  go_wp2_with (refine wpList_copyK rfl (.tmp 12) (.tmp 13) 25 25 rfl 71 5 u39 size91 ad _ _ _ _ w.heap.size rfl rfl cur 71 HB.out (rcells rs) (by omega) hrl HS0.out (by omega) (rcells_one rs) w.heap.size w hB0 (Nat.le_refl _) ?_)
  intro w1 cur1 hk1 he1 hB1
  have hc1 : cur1.size = (rs.length + 2) * 5 := by rw [he1.out]; simp only [List.size_toArray]; rw [length_splice _ _ _ (by simp; omega)]; simpa using hcur
  go_wp2_with (refine wpList_storeK rfl 71 (.tmp 18) (.tmp 17) rfl w.heap.size (rs.length * 5) #[.string ⟨#[]⟩, .int .i64 (-7), .int .i64 0, .int .i64 0, .string ⟨#[]⟩] rfl rfl cur1 71 hk1.out (by simp; omega) size91 (rc1_one (mark (-7))) w.heap.size w hB1 (Nat.le_refl _) ?_)
  intro w2 cur2 hk2 he2 hB2
  have hc2 : cur2.size = (rs.length + 2) * 5 := by rw [he2.out]; simp only [List.size_toArray]; rw [length_splice _ _ _ (by simp; omega)]; simpa using hc1
  go_wp2_with (refine wpList_storeK rfl 71 (.tmp 23) (.tmp 22) rfl w.heap.size ((rs.length + 1) * 5) #[.string ⟨#[]⟩, .int .i64 (-8), .int .i64 0, .int .i64 0, .string ⟨#[]⟩] rfl rfl cur2 71 hk2.out (by simp; omega) size91 (rc1_one (mark (-8))) w.heap.size w hB2 (Nat.le_refl _) ?_)
  intro w3 cur3 hk3 he3 hB3
  have HE : Hid (cur3 = (rcells (rs ++ [mark (-7), mark (-8)])).toArray) := lent_cells hcur he1.out he2.out he3.out
  go_wp2
  go_ret
  have hlt3 : w.heap.size < w3.heap.size := (Array.getElem?_eq_some_iff.1 hk3.out).1
  refine ⟨_, rfl, ⟨w.heap.size, rfl, hlt3, Nat.le_refl _, ?_⟩, hB3⟩
  refine recs_of_cells _ 0 fun i v hi => ?_
  rw [Nat.zero_add, cell_blk hk3.out, HE.out]
  simpa using hi
end Go.Proofs.YtefdokkadckbbaaGreatDoor
