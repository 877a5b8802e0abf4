/- isLabel: is a text a label? -/
import Derived.Test.YtefdokkadckbbaaGreatDoorA1
import Derived.Test.YtefdokkadckbbaaGreatDoorS1
namespace Go.Proofs.YtefdokkadckbbaaGreatDoor
open Go.RowKit
set_option maxRecDepth 100000

/-- A label, of a text. -/
def isLab (s : ByteArray) : Bool := labOk (tl s)

theorem take_snoc (s : ByteArray) (k : Nat) (h : k < s.size) : s.data.toList.take (k + 1) = s.data.toList.take k ++ [s[k]] := by
  rw [List.take_succ_eq_append_getElem (by simpa using h)]; rfl

theorem all_snoc (s : ByteArray) (k : Nat) (h : k < s.size) (ha : (s.data.toList.take k).all low = true) (hl : low s[k] = true) : (s.data.toList.take (k + 1)).all low = true := by
  rw [take_snoc s k h, List.all_append, ha]; simp [hl]

theorem all_no (s : ByteArray) (k : Nat) (h : k < s.size) (hl : low s[k] = false) : s.data.toList.all low = false := by
  rw [List.all_eq_false]
  exact ⟨s[k], by rw [ByteArray.getElem_eq_getElem_data]; simp, by simp [hl]⟩

theorem low_yes {c : UInt8} (h1 : ¬ (c.toNat : Int) < 97) (h2 : ¬ (122 : Int) < c.toNat) : low c = true := by
  unfold low; exact decide_eq_true (by omega)
theorem low_no {c : UInt8} (h : (c.toNat : Int) < 97 ∨ (122 : Int) < c.toNat) : low c = false := by
  unfold low; exact decide_eq_false (by omega)

theorem ret_bool {a b : Bool} (h : a = b) : Ending.returned (.bool a) = .returned (.bool b) := by rw [h]
theorem isLab_size {s : ByteArray} (h : s.size < 1 ∨ 6 < s.size) : isLab s = false := by
  unfold isLab labOk; rw [decide_eq_false (by rw [tl_length]; omega)]; rfl
theorem isLab_all {s : ByteArray} (h1 : ¬ s.size < 1) (h2 : ¬ 6 < s.size) : isLab s = s.data.toList.all low := by
  unfold isLab labOk; rw [decide_eq_true (by rw [tl_length]; omega)]; rfl
theorem isLab_no {s : ByteArray} (k : Nat) (h : k < s.size) (hl : (s[k].toNat : Int) < 97 ∨ (122 : Int) < s[k].toNat) : isLab s = false := by
  unfold isLab labOk; rw [show (tl s).all low = false from all_no s k h (low_no hl)]; simp
theorem isLab_yes {s : ByteArray} (k : Nat) (hk : k ≤ s.size) (h : ¬ k < s.size) (h1 : ¬ s.size < 1) (h2 : ¬ 6 < s.size) (ha : (s.data.toList.take k).all low = true) : isLab s = true := by
  rw [isLab_all h1 h2]
  have : s.data.toList.take k = s.data.toList := List.take_of_length_le (by show s.data.toList.length ≤ k; have : s.data.toList.length = s.size := rfl; omega)
  rw [this] at ha; exact ha

set_option maxHeartbeats 400000 in
theorem isLabel_any (s : ByteArray) (w : World) (hs : s.size ≤ 1048576) :
    Calls Tryz.prog 237 #[.string s] w fun e w' => e = .returned (.bool (isLab s)) ∧ w' = w := by
  by_cases h1 : s.size < 1
  · go_enter Tryz.func237, Tryz.ntmps237
    go_wp2
    go_ret
    exact ⟨ret_bool (isLab_size (.inl h1)).symm, rfl⟩
  by_cases h2 : 6 < s.size
  · go_enter Tryz.func237, Tryz.ntmps237
    go_wp2
    go_ret
    exact ⟨ret_bool (isLab_size (.inr h2)).symm, rfl⟩
  go_enter Tryz.func237, Tryz.ntmps237
  go_wp2
  go_loop [14] (fun i => ∃ k : Nat, k ≤ s.size ∧ i = .int .i64 k ∧ (s.data.toList.take k).all low = true) (fun i => s.size - (intOf i).toNat)
  case atStart => exact ⟨0, Nat.zero_le _, rfl, rfl⟩
  case round =>
    obtain ⟨k, hk, rfl, ha⟩ := hrel
    have HA : Hid ((s.data.toList.take k).all low = true) := ha
    clear ha
    by_cases hlt : k < s.size
    · go_wp2
      · go_ret
        exact ⟨ret_bool (isLab_no k hlt (by omega)).symm, rfl⟩
      · go_round
        case rel => exact ⟨k + 1, hlt, by go_num, all_snoc s k hlt HA.out (low_yes (by omega) (by omega))⟩
        case measure => simp [intOf]; omega
      · go_ret
        exact ⟨ret_bool (isLab_no k hlt (by omega)).symm, rfl⟩
    · go_wp2
      go_ret
      exact ⟨ret_bool (isLab_yes k hk hlt h1 h2 HA.out).symm, rfl⟩
end Go.Proofs.YtefdokkadckbbaaGreatDoor
