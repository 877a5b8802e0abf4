/- The reference's Name: is a text a name? -/
import Derived.Test.YtefdokkadckbbaaGreatDoorA3
namespace Go.Proofs.YtefdokkadckbbaaGreatDoor
open Go.RowKit
set_option maxRecDepth 100000

theorem nameOk_of {s : ByteArray} {ss : List ByteArray} (h : ss.map tl = labs (tl s)) : nameOk (tl s) = (decide (ss.length ≤ 5) && ss.all isLab) := by
  unfold nameOk
  rw [← h, List.length_map, List.all_map]
  rfl
theorem mem_sum (xs : List (List UInt8)) (x : List UInt8) (h : x ∈ xs) : x.length ≤ (xs.map List.length).sum := by
  induction xs with
  | nil => simp at h
  | cons y r ih =>
    simp at h
    rcases h with h | h
    · subst h; simp
    · have := ih h; simp; omega
theorem piece_size {s : ByteArray} {ss : List ByteArray} (h : ss.map tl = labs (tl s)) {k : Nat} {x : ByteArray} (hx : ss[k]? = some x) : x.size ≤ s.size := by
  have h1 := labs_sum (tl s)
  have hm : tl x ∈ labs (tl s) := by rw [← h]; exact List.mem_map_of_mem (List.mem_of_getElem? hx)
  have h2 := mem_sum _ _ hm
  have h3 : 0 < (labs (tl s)).length := List.length_pos_of_mem hm
  rw [tl_length] at h1 h2; omega
theorem pieces_len {s : ByteArray} {ss : List ByteArray} (h : ss.map tl = labs (tl s)) : ss.length ≤ s.size + 1 := by
  have h1 := labs_sum (tl s)
  rw [← h, List.length_map] at h1
  rw [tl_length] at h1; omega

theorem nameOk_many {s : ByteArray} {ss : List ByteArray} (h : ss.map tl = labs (tl s)) (h5 : 5 < ss.length) : nameOk (tl s) = false := by
  rw [nameOk_of h, decide_eq_false (by omega)]; rfl
theorem nameOk_bad {s : ByteArray} {ss : List ByteArray} (h : ss.map tl = labs (tl s)) {k : Nat} {x : ByteArray} (hx : ss[k]? = some x) (hl : isLab x = false) : nameOk (tl s) = false := by
  rw [nameOk_of h]
  have : ss.all isLab = false := by rw [List.all_eq_false]; exact ⟨x, List.mem_of_getElem? hx, by simp [hl]⟩
  rw [this]; simp
theorem nameOk_good {s : ByteArray} {ss : List ByteArray} (h : ss.map tl = labs (tl s)) (h5 : ss.length ≤ 5) {k : Nat} (hk : ss.length ≤ k) (ha : (ss.take k).all isLab = true) : nameOk (tl s) = true := by
  rw [nameOk_of h, decide_eq_true h5]
  rw [List.take_of_length_le hk] at ha; rw [ha]; rfl
theorem all_snocS {ss : List ByteArray} {k : Nat} {x : ByteArray} (hx : ss[k]? = some x) (ha : (ss.take k).all isLab = true) (hl : isLab x = true) : (ss.take (k + 1)).all isLab = true := by
  rw [List.take_add_one, hx, List.all_append, ha]; simp [hl]
theorem get_at {ss : List ByteArray} {k : Nat} (h : k < ss.length) : ∃ x, ss[k]? = some x := ⟨ss[k], List.getElem?_eq_getElem h⟩

set_option maxHeartbeats 800000 in
theorem Name_any (s : ByteArray) (w : World) (hs : s.size ≤ 1048576) :
    Calls Tryz.prog 156 #[.string s] w fun e w' => e = .returned (.bool (nameOk (tl s))) ∧ Below w.heap.size w w' := by
  go_enter Tryz.func156, Tryz.ntmps156
  go_wp2_with fail
  refine (split_any s _ hs).mono ?_
  rintro e w1 ⟨v, ss, rfl, hmap, hsl, hb⟩
  have hlen := pieces_len hmap
  rcases hsl with ⟨rfl, rfl⟩ | ⟨g, o, c, rfl, hg, hc, hcell⟩
  · go_wp2
    refine wp_loop_rounds 1 ?_
    rw [rounds_succ]
    go_wp2
    go_ret
    exact ⟨ret_bool (nameOk_good (k := 0) hmap (by simp) (by simp) rfl).symm, hb⟩
  · by_cases h5 : 5 < ss.length
    · go_wp2
      go_ret
      exact ⟨ret_bool (nameOk_many hmap h5).symm, hb⟩
    · have HM : Hid (ss.map tl = labs (tl s)) := hmap
      clear hmap
      have HC : Hid (∀ j x, ss[j]? = some x → w1.cell? ⟨g, o + j, none⟩ = some (.string x)) := hcell
      clear hcell
      go_wp2
      go_loop [4] (fun i => ∃ k : Nat, k ≤ ss.length ∧ i = .int .i64 k ∧ (ss.take k).all isLab = true) (fun i => ss.length - (intOf i).toNat)
      case atStart => exact ⟨0, Nat.zero_le _, rfl, rfl⟩
      case round =>
        obtain ⟨k, hk, rfl, ha⟩ := hrel
        have HA : Hid ((ss.take k).all isLab = true) := ha
        clear ha
        by_cases hlt : k < ss.length
        · obtain ⟨x, hx⟩ := get_at hlt
          have hcx := HC.out k x hx
          have hxs := piece_size HM.out hx
          have HX : Hid (ss[k]? = some x) := hx
          clear hx
          by_cases h1 : x.size < 1
          · go_wp2
            go_ret
            exact ⟨ret_bool (nameOk_bad HM.out HX.out (isLab_size (.inl h1))).symm, hb⟩
          by_cases h2 : 6 < x.size
          · go_wp2
            go_ret
            exact ⟨ret_bool (nameOk_bad HM.out HX.out (isLab_size (.inr h2))).symm, hb⟩
          go_wp2
          go_loop [5] (fun i => ∃ j : Nat, j ≤ x.size ∧ i = .int .i64 j ∧ (x.data.toList.take j).all low = true) (fun i => x.size - (intOf i).toNat)
          case atStart => exact ⟨0, Nat.zero_le _, rfl, rfl⟩
          case round =>
            obtain ⟨j, hj, rfl, hal⟩ := hrel
            have HL : Hid ((x.data.toList.take j).all low = true) := hal
            clear hal
            by_cases hjt : j < x.size
            · go_wp2
              · go_ret
                exact ⟨ret_bool (nameOk_bad HM.out HX.out (isLab_no j hjt (by omega))).symm, hb⟩
              · go_round
                case rel => exact ⟨j + 1, hjt, by go_num, all_snoc x j hjt HL.out (low_yes (by omega) (by omega))⟩
                case measure => simp [intOf]; omega
              · go_ret
                exact ⟨ret_bool (nameOk_bad HM.out HX.out (isLab_no j hjt (by omega))).symm, hb⟩
            · go_wp2
              go_round
              case rel => exact ⟨k + 1, hlt, by go_num, all_snocS HX.out HA.out (isLab_yes j hj hjt h1 h2 HL.out)⟩
              case measure => simp [intOf]; omega
        · go_wp2
          go_ret
          exact ⟨ret_bool (nameOk_good HM.out (by omega) (by omega) HA.out).symm, hb⟩
end Go.Proofs.YtefdokkadckbbaaGreatDoor
