/- The reference's Name: is a text a name? -/
import Derived.Test.YtefdokkadckbbaaDoorA3
namespace Go.Proofs.YtefdokkadckbbaaDoor
open Go.RowKit
set_option maxRecDepth 100000

theorem nameOk_of {s : ByteArray} {ss : List ByteArray} (h : ss.map tl = labs (tl s)) : nameOk (tl s) = (decide (ss.length ≤ 5) && ss.all isLab) := by
  unfold nameOk
  rw [← h, List.length_map, List.all_map]
  rfl
theorem mem_sum (xs : List (List UInt8)) (x : List UInt8) (h : x ∈ xs) : x.length ≤ (xs.map List.length).sum := by
  induction xs with
  | nil => simp at h
  | cons y r ih =>
    simp at h
    rcases h with h | h
    · subst h; simp
    · have := ih h; simp; omega
theorem piece_size {s : ByteArray} {ss : List ByteArray} (h : ss.map tl = labs (tl s)) {k : Nat} {x : ByteArray} (hx : ss[k]? = some x) : x.size ≤ s.size := by
  have h1 := labs_sum (tl s)
  have hm : tl x ∈ labs (tl s) := by rw [← h]; exact List.mem_map_of_mem (List.mem_of_getElem? hx)
  have h2 := mem_sum _ _ hm
  have h3 : 0 < (labs (tl s)).length := List.length_pos_of_mem hm
  rw [tl_length] at h1 h2; omega
theorem pieces_len {s : ByteArray} {ss : List ByteArray} (h : ss.map tl = labs (tl s)) : ss.length ≤ s.size + 1 := by
  have h1 := labs_sum (tl s)
  rw [← h, List.length_map] at h1
  rw [tl_length] at h1; omega

theorem nameOk_many {s : ByteArray} {ss : List ByteArray} (h : ss.map tl = labs (tl s)) (h5 : 5 < ss.length) : nameOk (tl s) = false := by
  rw [nameOk_of h, decide_eq_false (by omega)]; rfl
theorem nameOk_bad {s : ByteArray} {ss : List ByteArray} (h : ss.map tl = labs (tl s)) {k : Nat} {x : ByteArray} (hx : ss[k]? = some x) (hl : isLab x = false) : nameOk (tl s) = false := by
  rw [nameOk_of h]
  have : ss.all isLab = false := by rw [List.all_eq_false]; exact ⟨x, List.mem_of_getElem? hx, by simp [hl]⟩
  rw [this]; simp
theorem nameOk_good {s : ByteArray} {ss : List ByteArray} (h : ss.map tl = labs (tl s)) (h5 : ss.length ≤ 5) {k : Nat} (hk : ss.length ≤ k) (ha : (ss.take k).all isLab = true) : nameOk (tl s) = true := by
  rw [nameOk_of h, decide_eq_true h5]
  rw [List.take_of_length_le hk] at ha; rw [ha]; rfl
theorem all_snocS {ss : List ByteArray} {k : Nat} {x : ByteArray} (hx : ss[k]? = some x) (ha : (ss.take k).all isLab = true) (hl : isLab x = true) : (ss.take (k + 1)).all isLab = true := by
  rw [List.take_add_one, hx, List.all_append, ha]; simp [hl]
theorem get_at {ss : List ByteArray} {k : Nat} (h : k < ss.length) : ∃ x, ss[k]? = some x := ⟨ss[k], List.getElem?_eq_getElem h⟩

end Go.Proofs.YtefdokkadckbbaaDoor
