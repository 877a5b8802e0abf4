/- wire.isList, wire.isMessage. -/
import Derived.Test.YtefdokkadckbbaaGreatDoorA7
namespace Go.Proofs.YtefdokkadckbbaaGreatDoor
open Go.RowKit
set_option maxRecDepth 100000

/-- A record's five cells. -/
def RecAt (w : World) (g o : Nat) (r : Rec) : Prop :=
  w.cell? ⟨g, o, none⟩ = some (.string r.name) ∧ w.cell? ⟨g, o + 1, none⟩ = some (.int .i64 r.ty) ∧ w.cell? ⟨g, o + 2, none⟩ = some (.int .i64 r.ttl) ∧ w.cell? ⟨g, o + 3, none⟩ = some (.int .i64 r.num) ∧ w.cell? ⟨g, o + 4, none⟩ = some (.string r.target)
/-- The slice value v holds the records rs. -/
def RecSl (w : World) (v : Value) (rs : List Rec) : Prop :=
  ∃ a c, v = .slice a rs.length c ∧ (rs = [] ∨ ∃ g o, a = some ⟨g, o, none⟩ ∧ g < w.heap.size ∧ rs.length ≤ c ∧ ∀ j r, rs[j]? = some r → RecAt w g (o + j * 5) r)
theorem RecAt.below {w w' : World} {B g o : Nat} {r : Rec} (h : RecAt w g o r) (hb : Below B w w') (hg : g < B) : RecAt w' g o r := by
  unfold RecAt at *
  simp only [hb.cell (p := ⟨g, _, none⟩) hg]
  exact h
theorem RecSl.below {w w' : World} {v : Value} {rs : List Rec} (h : RecSl w v rs) (hb : Below w.heap.size w w') : RecSl w' v rs := by
  obtain ⟨a, c, hv, h | ⟨g, o, ha, hg, hc, hr⟩⟩ := h
  · exact ⟨a, c, hv, .inl h⟩
  · exact ⟨a, c, hv, .inr ⟨g, o, ha, Nat.lt_of_lt_of_le hg hb.size, hc, fun j r hj => (hr j r hj).below hb hg⟩⟩
/-- Every text of the records is short enough. -/
def Small (rs : List Rec) : Prop := ∀ (j : Nat) (r : Rec), rs[j]? = some r → r.name.size ≤ 1048576 ∧ r.target.size ≤ 1048576

theorem rec_at {rs : List Rec} {k : Nat} (h : k < rs.length) : ∃ x, rs[k]? = some x := ⟨rs[k], List.getElem?_eq_getElem h⟩
theorem listOk_many {rs : List Rec} (h : 10 < rs.length) : listOk rs = false := by unfold listOk; rw [decide_eq_false (by omega)]; rfl
theorem listOk_bad {rs : List Rec} {k : Nat} {x : Rec} (hx : rs[k]? = some x) (hl : recOk x = false) : listOk rs = false := by
  unfold listOk
  have : rs.all recOk = false := by rw [List.all_eq_false]; exact ⟨x, List.mem_of_getElem? hx, by simp [hl]⟩
  rw [this]; simp
theorem listOk_good {rs : List Rec} (h : rs.length ≤ 10) {k : Nat} (hk : rs.length ≤ k) (ha : (rs.take k).all recOk = true) : listOk rs = true := by
  unfold listOk
  rw [List.take_of_length_le hk] at ha; rw [ha, decide_eq_true h]; rfl
theorem all_snocR {rs : List Rec} {k : Nat} {x : Rec} (hx : rs[k]? = some x) (ha : (rs.take k).all recOk = true) (hl : recOk x = true) : (rs.take (k + 1)).all recOk = true := by
  rw [List.take_add_one, hx, List.all_append, ha]; simp [hl]

set_option maxHeartbeats 1000000 in
theorem isList_any (v : Value) (rs : List Rec) (w : World) (hG : Good w) (hS : Small rs) (hv : RecSl w v rs) :
    Calls Tryz.prog 174 #[v] w fun e w' => e = .returned (.bool (listOk rs)) ∧ Below w.heap.size w w' := by
  obtain ⟨a, c, rfl, rfl | ⟨g, o, rfl, hg, hc, hr⟩⟩ := hv
  · go_enter Tryz.func174, Tryz.ntmps174
    go_wp2
    refine wp_loop_rounds 1 ?_
    rw [rounds_succ]
    go_wp2
    go_ret
    exact ⟨ret_bool rfl, Below.refl _ _⟩
  by_cases h10 : 10 < rs.length
  · go_enter Tryz.func174, Tryz.ntmps174
    go_wp2
    go_ret
    exact ⟨ret_bool (listOk_many h10).symm, Below.refl _ _⟩
  have HR : Hid (∀ j r, rs[j]? = some r → RecAt w g (o + j * 5) r) := hr
  have HS : Hid (Small rs) := hS
  have HG : Hid (Good w) := hG
  clear hr hS hG
  go_enter Tryz.func174, Tryz.ntmps174
  go_wp2
  go_loopw [10] (fun i wr => ∃ k : Nat, k ≤ rs.length ∧ i = .int .i64 k ∧ (rs.take k).all recOk = true ∧ Below w.heap.size w wr) (fun i _ => rs.length - (intOf i).toNat)
  case atStart => exact ⟨0, Nat.zero_le _, rfl, rfl, Below.refl _ _⟩
  case round =>
    obtain ⟨k, hk, rfl, ha, hb⟩ := hrel
    have HA : Hid ((rs.take k).all recOk = true) := ha
    clear ha
    by_cases hlt : k < rs.length
    · obtain ⟨x, hx⟩ := rec_at hlt
      obtain ⟨c0, c1, c2, c3, c4⟩ := (HR.out k x hx).below hb hg
      obtain ⟨z0, z4⟩ := HS.out k x hx
      have HX : Hid (rs[k]? = some x) := hx
      clear hx
      have hG1 := HG.out.below hb
      have hB1 := hb.alloc hb.size (.cells #[.string x.name, .int .i64 x.ty, .int .i64 x.ttl, .int .i64 x.num, .string x.target] 71)
      cases hok : recOk x with
      | true =>
        go_wp2_with (go_at_call 238; refine (isRecord_any x _ (hG1.alloc _) z0 z4).mono ?_; rw [hok]; rintro e w2 ⟨rfl, hb2⟩)
        go_roundw
        case rel => exact ⟨k + 1, hlt, by go_num, all_snocR HX.out HA.out hok, hB1.trans (hb2.mono hB1.size)⟩
        case measure => simp [intOf]; omega
      | false =>
        go_wp2_with (go_at_call 238; refine (isRecord_any x _ (hG1.alloc _) z0 z4).mono ?_; rw [hok]; rintro e w2 ⟨rfl, hb2⟩)
        go_ret
        exact ⟨ret_bool (listOk_bad HX.out hok).symm, hB1.trans (hb2.mono hB1.size)⟩
    · go_wp2
      go_ret
      exact ⟨ret_bool (listOk_good (by omega) (by omega) HA.out).symm, hb⟩
end Go.Proofs.YtefdokkadckbbaaGreatDoor
