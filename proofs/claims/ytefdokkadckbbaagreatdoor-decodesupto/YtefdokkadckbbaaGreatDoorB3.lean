/- wire.listBytes. -/
import Derived.Test.YtefdokkadckbbaaGreatDoorB2
namespace Go.Proofs.YtefdokkadckbbaaGreatDoor
open Go.RowKit
set_option maxRecDepth 100000

/-- The parts of a list: of each record its bytes. -/
def rp (rs : List Rec) : List ByteArray := rs.map fun r => mk (recW r)
theorem rp_length (rs : List Rec) : (rp rs).length = rs.length := by simp [rp]
theorem rp_next {rs : List Rec} {k : Nat} {x : Rec} (h : rs[k]? = some x) : rp (rs.take (k + 1)) = rp (rs.take k) ++ [mk (recW x)] := by
  rw [List.take_add_one, h]; simp [rp]
theorem flat_rp (rs : List Rec) : flat (rp rs) = listW rs := by
  unfold flat rp listW
  rw [List.map_map]
  congr 1
theorem RecSl.any {w : World} {v : Value} {rs : List Rec} (h : RecSl w v rs) : ∃ a c, v = .slice a rs.length c ∧ ∀ (j : Nat) (x : Rec), rs[j]? = some x → ∃ g o, a = some ⟨g, o, none⟩ ∧ g < w.heap.size ∧ RecAt w g (o + j * 5) x := by
  obtain ⟨a, c, hv, rfl | ⟨g, o, ha, hg, _, hr⟩⟩ := h
  · exact ⟨a, c, hv, fun j x hj => by simp at hj⟩
  · exact ⟨a, c, hv, fun j x hj => ⟨g, o, ha, hg, hr j x hj⟩⟩

theorem rp_step {w wr w1 w2 : World} {rs : List Rec} {k : Nat} {x : Rec} {v v' : Value} {o o' : Obj} (hx : rs[k]? = some x)
    (hown : wr.ownsRow w.heap.size 9 1 v (rp (rs.take k)).length ((rp (rs.take k)).map Value.string)) (hb : Below w.heap.size w wr) (hb1 : Below (wr.alloc o').heap.size (wr.alloc o') w1)
    (hown' : w2.ownsRow w.heap.size 9 1 v' ((rp (rs.take k)).length + 1) ((rp (rs.take k)).map Value.string ++ [.string (mk (recW x))]))
    (hg : (w1.alloc o).grownBy w2 v.ownBlock) :
    w2.ownsRow w.heap.size 9 1 v' (rp (rs.take (k + 1))).length ((rp (rs.take (k + 1))).map Value.string) ∧ Below w.heap.size w w2 := by
  have hba := hb.alloc hb.size o'
  have hb2 : Below w.heap.size w w1 := hba.trans (hb1.mono hba.size)
  refine ⟨?_, (hb2.alloc hb2.size o).grown hg (by have := hb2.size; simp; omega) (own_ge hown)⟩
  rw [rp_next hx]
  simpa using hown'

set_option maxHeartbeats 1000000 in
theorem listBytes_any (v : Value) (rs : List Rec) (w : World) (hG : Good w) (hv : RecSl w v rs) (hok : listOk rs = true) :
    Calls Tryz.prog 181 #[v] w fun e w' => e = .returned (.string (mk (listW rs))) ∧ Below w.heap.size w w' := by
  obtain ⟨i0, hi, hz0, hz1, hz2⟩ := info_parts info9
  obtain ⟨a, c, rfl, hcell⟩ := hv.any
  have hok' : rs.length ≤ 10 ∧ rs.all recOk = true := by unfold listOk at hok; simpa using hok
  obtain ⟨h10, hall⟩ := hok'
  have hlw := listW_length rs hall
  have HF : Hid (flat (rp rs) = listW rs) := flat_rp rs
  have HC : Hid (∀ (j : Nat) (x : Rec), rs[j]? = some x → ∃ g o, a = some ⟨g, o, none⟩ ∧ g < w.heap.size ∧ RecAt w g (o + j * 5) x) := hcell
  have HO : Hid (∀ (j : Nat) (x : Rec), rs[j]? = some x → recOk x = true) := fun j x hx => List.all_eq_true.1 hall x (List.mem_of_getElem? hx)
  have HG : Hid (Good w) := hG
  clear hcell hall hok hG hv
  go_enter Tryz.func181, Tryz.ntmps181
  go_wp2_with (at_make; refine wpList_make_own _ rfl _ _ 42 rfl w.heap.size 9 i0 (.string ByteArray.empty) 1 u106 hi hz0 hz1 _ _ _ rs.length rfl rfl rfl ?b2 ?b3 (Nat.le_refl _) ?_)
  case b2 => rw [hz2]; omega
  case b3 => unfold maxLen; omega
  intro w0 hown0 hgrow0
  have hB0 : Below w.heap.size w w0 := (Below.refl _ _).grown hgrow0 (Nat.le_refl _) (fun k h => by cases h)
  clear hgrow0
  go_wp2
  go_loopw [3, 11] (fun v i wr => ∃ k : Nat, k ≤ rs.length ∧ i = .int .i64 k ∧ wr.ownsRow w.heap.size 9 1 v (rp (rs.take k)).length ((rp (rs.take k)).map Value.string) ∧ Below w.heap.size w wr) (fun _ i _ => rs.length - (intOf i).toNat)
  case atStart => exact ⟨0, Nat.zero_le _, rfl, hown0, hB0⟩
  case round =>
    obtain ⟨k, hk, rfl, hown, hb⟩ := hrel
    by_cases hlt : k < rs.length
    · obtain ⟨x, hx⟩ := rec_at hlt
      obtain ⟨g, o, rfl, hg, hra⟩ := HC.out k x hx
      obtain ⟨c0, c1, c2, c3, c4⟩ := hra.below hb hg
      clear hra
      have hokx := HO.out k x hx
      have HX : Hid (rs[k]? = some x) := hx
      clear hx
      have hpl : (rp (rs.take k)).length ≤ 10 := by rw [rp_length, List.length_take]; omega
      have hG1 := HG.out.below hb
      go_wp2_with fail
      refine (recordBytes_any x _ (hG1.alloc _) hokx).mono ?_
      rintro e w1 ⟨rfl, hb1⟩
      go_wp2_with (first
          | (at_builtin; refine wpList_append_own _ rfl _ _ 42 rfl w.heap.size 9 i0 (.string ByteArray.empty) 1 16 u106 hi hz0 hz1 hz2 rfl (by decide) _ _ _ rfl (((hown.alloc _).below hb1).alloc _) ⟨w1.heap.size, 0, none⟩ 1 1 [.string (mk (recW x))] rfl rfl ?c1 ?c2 ?c3 ?c4 ?c5 ?_))
      case c1 =>
        intro j u hj
        match j, hj with
        | 0, hj => simp at hj; subst hj; simp [Addr.add]
      case c2 => intro u hu; simp at hu; subst hu; rfl
      case c3 => unfold maxLen; omega
      case c4 => omega
      case c5 => have := hb.size; have := hb1.size; simp at this ⊢; omega
      intro v' w2 hown' hgrow _
      have R := rp_step HX.out hown hb hb1 hown' hgrow
      clear hown' hgrow hown
      go_wp2
      go_roundw
      case rel => exact ⟨k + 1, hlt, by go_num, R.1, R.2⟩
      case measure => simp [intOf]; omega
    · have hk' : rs.take k = rs := List.take_of_length_le (by omega)
      rw [hk'] at hown
      clear hk'
      go_wp2_with fail
      refine (together_any _ (rp rs) _ (StrSl_of_owns hown) (by rw [rp_length]; omega) (by rw [HF.out]; omega)).mono ?_
      rintro e w1 ⟨rfl, hb1⟩
      go_wp2
      go_ret
      exact ⟨ret_str (congrArg mk HF.out), hb.trans (hb1.mono hb.size)⟩
end Go.Proofs.YtefdokkadckbbaaGreatDoor
