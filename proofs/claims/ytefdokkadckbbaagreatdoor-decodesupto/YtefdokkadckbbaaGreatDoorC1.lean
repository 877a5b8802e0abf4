/- The reference's bytes: of numbers. -/
import Derived.Test.YtefdokkadckbbaaGreatDoorB6
namespace Go.Proofs.YtefdokkadckbbaaGreatDoor
open Go.RowKit
set_option maxRecDepth 100000

theorem info5 : (Tryz.prog.info? 5).map (fun i => (i.zero, i.size, i.bytes)) = some (some (.int .u8 0), 1, 1) := by kernel_rfl

/-- The cells of the new bytes, k of them written. -/
def bc (xs : List Int) (k : Nat) : List Value := (xs.take k).map (fun x => Value.int .u8 (x % 256)) ++ List.replicate (xs.length - k) (.int .u8 0)

theorem bc_zero (xs : List Int) : bc xs 0 = (madeCells #[Value.int .u8 0] xs.length).toList := by
  rw [toList_madeCells_one]; simp [bc]
theorem bc_length (xs : List Int) (k : Nat) (h : k ≤ xs.length) : (bc xs k).length = xs.length := by simp [bc]; omega
theorem bc_set (xs : List Int) (k : Nat) (x : Int) (hx : xs[k]? = some x) : (bc xs k).set k (.int .u8 (x % 256)) = bc xs (k + 1) := by
  have hk : k < xs.length := (List.getElem?_eq_some_iff.1 hx).1
  unfold bc
  obtain ⟨n, hn⟩ : ∃ n, xs.length - k = n + 1 := ⟨xs.length - k - 1, by omega⟩
  have hn2 : xs.length - (k + 1) = n := by omega
  rw [hn, hn2, List.set_append_right _ _ (by simp; omega), List.take_add_one, hx]
  have : k - (List.map (fun x => Value.int IntKind.u8 (x % 256)) (List.take k xs)).length = 0 := by simp; omega
  rw [this, List.replicate_succ]
  simp
theorem bc_all (xs : List Int) (k : Nat) (h : xs.length ≤ k) : bc xs k = xs.map (fun x => Value.int .u8 (x % 256)) := by
  unfold bc
  rw [List.take_of_length_le h, show xs.length - k = 0 by omega]; simp
theorem bytes_conv (xs : List Int) (w wr : World) (k : Nat) (hk : xs.length ≤ k) (hown : wr.ownsRow w.heap.size 5 1 (.slice (some ⟨w.heap.size, 0, none⟩) xs.length xs.length) xs.length (bc xs k)) :
    (convert 336 9 (.slice (some ⟨w.heap.size, 0, none⟩) xs.length xs.length)).run Tryz.prog wr = .ok (.string (mk (xs.map byte))) wr := by
  rw [run_convert_bytes_arg wr 336 5 u137 u5 w.heap.size 0 xs.length xs.length (xs.map (· % 256)) (by simp) (fun i hi => ?_) 9 u9]
  · congr 2
    apply tl_inj
    rw [tl_mk']
    unfold strOfNums
    rw [tl_mk]
    simp only [List.map_map]
    rfl
  · rw [Nat.zero_add, hown.cellAt i (by omega), bc_all xs k hk]
    simp [List.getD, List.getElem?_eq_getElem hi]

set_option maxHeartbeats 1000000 in
theorem bytes_any (g o c : Nat) (xs : List Int) (w : World) (hg : g < w.heap.size) (hcell : ∀ (j : Nat) (x : Int), xs[j]? = some x → w.cell? ⟨g, o + j, none⟩ = some (.int .i64 x)) (h0 : ∀ x ∈ xs, 0 ≤ x ∧ x ≤ 1048576) (hN : xs.length ≤ 1000) :
    Calls Tryz.prog 158 #[.slice (some ⟨g, o, none⟩) xs.length c] w fun e w' => e = .returned (.string (mk (xs.map byte))) ∧ Below w.heap.size w w' := by
  obtain ⟨i0, hi, hz0, hz1, hz2⟩ := info_parts info5
  have HC : Hid (∀ (j : Nat) (x : Int), xs[j]? = some x → w.cell? ⟨g, o + j, none⟩ = some (.int .i64 x)) := hcell
  have H0 : Hid (∀ x ∈ xs, 0 ≤ x ∧ x ≤ 1048576) := h0
  clear hcell h0
  go_enter Tryz.func158, Tryz.ntmps158
  go_wp2_with (at_make; refine wpList_make_full _ rfl _ _ 336 rfl w.heap.size 5 i0 (.int .u8 0) 1 u137 hi hz0 hz1 _ _ _ _ xs.length rfl rfl rfl rfl ?b2 ?b3 (Nat.le_refl _) ?_)
  case b2 => rw [hz2]; omega
  case b3 => unfold maxLen; omega
  intro w0 hown0 hgrow0
  have hB0 : Below w.heap.size w w0 := (Below.refl _ _).grown hgrow0 (Nat.le_refl _) (fun k h => by cases h)
  clear hgrow0
  go_wp2
  go_loopw [4] (fun i wr => ∃ k : Nat, k ≤ xs.length ∧ i = .int .i64 k ∧ wr.ownsRow w.heap.size 5 1 (.slice (some ⟨w.heap.size, 0, none⟩) xs.length xs.length) xs.length (bc xs k) ∧ Below w.heap.size w wr) (fun i _ => xs.length - (intOf i).toNat)
  case atStart => exact ⟨0, Nat.zero_le _, rfl, by rw [bc_zero]; exact hown0, hB0⟩
  case round =>
    obtain ⟨k, hk, rfl, hown, hb⟩ := hrel
    by_cases hlt : k < xs.length
    · obtain ⟨x, hx⟩ : ∃ x, xs[k]? = some x := ⟨xs[k], List.getElem?_eq_getElem hlt⟩
      have hcx : wr.cell? ⟨g, o + k, none⟩ = some (.int .i64 x) := (hb.cell (p := ⟨g, o + k, none⟩) hg).trans (HC.out k x hx)
      obtain ⟨x0, x1⟩ := H0.out x (List.mem_of_getElem? hx)
      have HX : Hid (xs[k]? = some x) := hx
      clear hx
      have hfz := hown.frozenAt k
      obtain ⟨u, hu⟩ : ∃ u, wr.cell? ⟨w.heap.size, k, none⟩ = some u := by
        rw [hown.cellAt k (by omega)]
        exact ⟨_, List.getElem?_eq_getElem (by rw [bc_length _ _ hk]; exact hlt)⟩
      have HO : Hid ((wr.setCell ⟨w.heap.size, k, none⟩ (.int .u8 (x % 256))).ownsRow w.heap.size 5 1 (.slice (some ⟨w.heap.size, 0, none⟩) xs.length xs.length) xs.length (bc xs (k + 1))) := by
        have := (hown.stored k (.int .u8 (x % 256))).1
        rw [bc_set xs k x HX.out] at this
        exact this
      clear hown
      go_wp2
      go_roundw
      case rel => exact ⟨k + 1, hlt, by go_num, HO.out, hb.setCell (Nat.le_refl _) _⟩
      case measure => simp [intOf]; omega
    · have hcv := bytes_conv xs w wr k (by omega) hown
      clear hown
      go_wp2
      go_ret
      exact ⟨rfl, hb⟩
end Go.Proofs.YtefdokkadckbbaaGreatDoor
