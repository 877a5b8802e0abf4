/- names.Labels and names.Valid. -/
import Derived.Test.YtefdokkadckbbaaGreatDoorA4
import Derived.Test.YtefdokkadckbbaaGreatDoorS2
import Derived.Test.YtefdokkadckbbaaGreatDoorShelf
namespace Go.Proofs.YtefdokkadckbbaaGreatDoor
open Go.RowKit
set_option maxRecDepth 100000

/-- The library's variable MaxLen is laid. -/
def Good (w : World) : Prop := 0 < w.heap.size ∧ ∃ m : Int, w.cell? ⟨0, 0, none⟩ = some (.int .i64 m)
theorem Good.below {w w' : World} (h : Good w) (hb : Below w.heap.size w w') : Good w' := by
  obtain ⟨h1, m, hm⟩ := h
  exact ⟨Nat.lt_of_lt_of_le h1 hb.size, m, by rw [hb.cell (p := ⟨0, 0, none⟩) h1]; exact hm⟩
theorem Good.alloc {w : World} (h : Good w) (o : Obj) : Good (w.alloc o) := h.below ((Below.refl _ _).alloc (Nat.le_refl _) o)

set_option maxHeartbeats 400000 in
theorem Labels_any (s : ByteArray) (w : World) (hG : Good w) (hs : s.size ≤ 1048576) :
    Calls Tryz.prog 180 #[.string s] w fun e w' => ∃ v ss, e = .returned v ∧ ss.map tl = labs (tl s) ∧ StrSl w' v ss ∧ Below w.heap.size w w' := by
  cases h0 : s.toList.isEmpty with
  | true =>
    go_enter Tryz.func180, Tryz.ntmps180
    go_wp2
    go_ret
    exact ⟨_, [], rfl, by rw [empty_iff] at h0; have : tl s = [] := List.isEmpty_iff.1 h0; rw [this]; rfl, .inl ⟨rfl, rfl⟩, Below.refl _ _⟩
  | false =>
    obtain ⟨hG1, m, hm⟩ := hG
    have hl : labs (tl s) = cutAcc [] (tl s) := by rw [labs_ne h0, seg_self, List.drop_zero]
    have hsp := splitB_dot s
    have hln := Lib.splitB_all ⟨#[46]⟩ (by decide) 0 _ s rfl
    go_enter Tryz.func180, Tryz.ntmps180
    go_wp2_with (go_at_call 240; refine (Tryz.strings_Split s ⟨#[46]⟩ m _ (by omega) hm (by decide)).mono ?_; rintro e w1 ⟨rfl, hw⟩)
    go_ret
    subst hw
    refine ⟨_, Lib.splitB ⟨#[46]⟩ 0 (Lib.countB s ⟨#[46]⟩) s, rfl, by rw [hsp, hl], .inr ⟨w.heap.size, 0, Lib.countB s ⟨#[46]⟩ + 1, by rw [hln]; rfl, by simp, by omega, fun j x hj => ?_⟩, (Below.refl _ _).alloc (Nat.le_refl _) _⟩
    rw [Nat.zero_add]
    simp [hj]

set_option maxHeartbeats 800000 in
theorem Valid_any (s : ByteArray) (w : World) (hG : Good w) (hs : s.size ≤ 1048576) :
    Calls Tryz.prog 173 #[.string s] w fun e w' => e = .returned (.bool (nameOk (tl s))) ∧ Below w.heap.size w w' := by
  by_cases h34 : 34 < s.size
  · have hno : nameOk (tl s) = false := by
      cases h : nameOk (tl s) with
      | false => rfl
      | true => have := nameOk_size _ h; rw [tl_length] at this; omega
    go_enter Tryz.func173, Tryz.ntmps173
    go_wp2
    go_ret
    exact ⟨ret_bool hno.symm, Below.refl _ _⟩
  go_enter Tryz.func173, Tryz.ntmps173
  go_wp2_with fail
  refine (Labels_any s _ hG hs).mono ?_
  rintro e w1 ⟨v, ss, rfl, hmap, hsl, hb⟩
  have hlen := pieces_len hmap
  rcases hsl with ⟨rfl, rfl⟩ | ⟨g, o, c, rfl, hg, hc, hcell⟩
  · go_wp2
    refine wp_loop_rounds 1 ?_
    rw [rounds_succ]
    go_wp2
    go_ret
    exact ⟨ret_bool (nameOk_good (k := 0) hmap (by simp) (by simp) rfl).symm, hb⟩
  · by_cases h5 : 5 < ss.length
    · go_wp2
      go_ret
      exact ⟨ret_bool (nameOk_many hmap h5).symm, hb⟩
    · have HM : Hid (ss.map tl = labs (tl s)) := hmap
      clear hmap
      have HC : Hid (∀ j x, ss[j]? = some x → w1.cell? ⟨g, o + j, none⟩ = some (.string x)) := hcell
      clear hcell
      go_wp2
      go_loop [16] (fun i => ∃ k : Nat, k ≤ ss.length ∧ i = .int .i64 k ∧ (ss.take k).all isLab = true) (fun i => ss.length - (intOf i).toNat)
      case atStart => exact ⟨0, Nat.zero_le _, rfl, rfl⟩
      case round =>
        obtain ⟨k, hk, rfl, ha⟩ := hrel
        have HA : Hid ((ss.take k).all isLab = true) := ha
        clear ha
        by_cases hlt : k < ss.length
        · obtain ⟨x, hx⟩ := get_at hlt
          have hcx := HC.out k x hx
          have hxs := piece_size HM.out hx
          have HX : Hid (ss[k]? = some x) := hx
          clear hx
          cases hx1 : isLab x with
          | true =>
            go_wp2_with (go_at_call 237; refine (isLabel_any _ _ (by omega)).mono ?_; rintro e w' ⟨rfl, rfl⟩)
            go_round
            case rel => exact ⟨k + 1, hlt, by go_num, all_snocS HX.out HA.out hx1⟩
            case measure => simp [intOf]; omega
          | false =>
            go_wp2_with (go_at_call 237; refine (isLabel_any _ _ (by omega)).mono ?_; rintro e w' ⟨rfl, rfl⟩)
            go_ret
            exact ⟨ret_bool (nameOk_bad HM.out HX.out hx1).symm, hb⟩
        · go_wp2
          go_ret
          exact ⟨ret_bool (nameOk_good HM.out (by omega) (by omega) HA.out).symm, hb⟩
end Go.Proofs.YtefdokkadckbbaaGreatDoor
