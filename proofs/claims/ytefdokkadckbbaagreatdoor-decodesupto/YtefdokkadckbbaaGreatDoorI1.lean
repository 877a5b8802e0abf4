/- The reference's joined: a name of labels. -/
import Derived.Test.YtefdokkadckbbaaGreatDoorHa
import Derived.Test.YtefdokkadckbbaaGreatDoorE2
namespace Go.Proofs.YtefdokkadckbbaaGreatDoor
open Go.RowKit
set_option maxRecDepth 100000

theorem dotJoin_first (x : List UInt8) : dotJoin [x] = x := Lib.join_one x [46]
theorem dotJoin_snoc {L : List (List UInt8)} (h : L ≠ []) (x : List UInt8) : dotJoin (L ++ [x]) = dotJoin L ++ [46] ++ x := by
  cases L with
  | nil => exact absurd rfl h
  | cons y r =>
    unfold dotJoin
    rw [List.cons_append, Lib.join_cons, Lib.join_cons]
    simp [Lib.joinTail]
theorem dotJoin_le : ∀ (L : List (List UInt8)), (∀ x ∈ L, x.length ≤ 6) → (dotJoin L).length ≤ 7 * L.length := by
  intro L hL
  unfold dotJoin
  cases L with
  | nil => simp [Lib.join_nil]
  | cons y r =>
    rw [Lib.join_length]
    have hl : ∀ r : List (List UInt8), (∀ x ∈ r, x.length ≤ 6) → Lib.lens r ≤ 6 * r.length := by
      intro r hr
      induction r with
      | nil => simp [Lib.lens]
      | cons z q ih =>
        have h1 := hr z (by simp)
        have h2 := ih (fun x hx => hr x (by simp [hx]))
        simp [Lib.lens] at h2 ⊢; omega
    have := hl (y :: r) hL
    simp at this ⊢
    omega
theorem joined_first {xs : List ByteArray} {x : ByteArray} (hx : xs[0]? = some x) : mk (dotJoin ((xs.take 0).map tl)) ++ x = mk (dotJoin ((xs.take (0 + 1)).map tl)) := by
  apply tl_inj
  rw [List.take_add_one, hx, tl_append, tl_mk', tl_mk']
  simp [dotJoin_first]
  rfl
theorem joined_next {xs : List ByteArray} {x acc : ByteArray} {k : Nat} (hk : 0 < k) (hx : xs[k]? = some x) (ha : acc = mk (dotJoin ((xs.take k).map tl))) : acc ++ ⟨#[46]⟩ ++ x = mk (dotJoin ((xs.take (k + 1)).map tl)) := by
  have hlt : k < xs.length := (List.getElem?_eq_some_iff.1 hx).1
  apply tl_inj
  rw [List.take_add_one, hx, tl_append, tl_append, ha, tl_mk', tl_mk', List.map_append]
  have : (xs.take k).map tl ≠ [] := by
    intro e
    have := congrArg List.length e
    rw [List.length_map, List.length_take, List.length_nil] at this
    omega
  rw [show (some x).toList.map tl = [tl x] from rfl, dotJoin_snoc this]
  rfl

set_option maxHeartbeats 800000 in
theorem joined_any (v : Value) (xs : List ByteArray) (w : World) (hv : StrSl w v xs) (hN : xs.length ≤ 5) (h6 : ∀ x ∈ xs.map tl, x.length ≤ 6) :
    Calls Tryz.prog 161 #[v] w fun e w' => e = .returned (.string (mk (dotJoin (xs.map tl)))) ∧ Below w.heap.size w w' := by
  obtain ⟨a, c, rfl, hcell⟩ := hv.any
  have HC : Hid (∀ (j : Nat) (x : ByteArray), xs[j]? = some x → ∃ g o, a = some ⟨g, o, none⟩ ∧ g < w.heap.size ∧ w.cell? ⟨g, o + j, none⟩ = some (.string x)) := hcell
  have H6 : Hid (∀ x ∈ xs.map tl, x.length ≤ 6) := h6
  clear hcell h6 hv
  go_enter Tryz.func161, Tryz.ntmps161
  go_wp2
  go_loopw [3, 4] (fun v i wr => ∃ k : Nat, k ≤ xs.length ∧ i = .int .i64 k ∧ v = .string (mk (dotJoin ((xs.take k).map tl))) ∧ Below w.heap.size w wr) (fun _ i _ => xs.length - (intOf i).toNat)
  case atStart => exact ⟨0, Nat.zero_le _, rfl, rfl, Below.refl _ _⟩
  case round =>
    obtain ⟨k, hk, rfl, rfl, hbr⟩ := hrel
    by_cases hlt : k < xs.length
    · obtain ⟨x, hx⟩ := get_at hlt
      obtain ⟨g, o, rfl, hg, hcx0⟩ := HC.out k x hx
      have hcx : wr.cell? ⟨g, o + k, none⟩ = some (.string x) := (hbr.cell (p := ⟨g, o + k, none⟩) hg).trans hcx0
      clear hcx0
      have hx6 : x.size ≤ 6 := by rw [← tl_length]; exact H6.out _ (List.mem_map_of_mem (List.mem_of_getElem? hx))
      have HX : Hid (xs[k]? = some x) := hx
      clear hx
      obtain ⟨acc, hacc⟩ : ∃ acc, acc = mk (dotJoin ((xs.take k).map tl)) := ⟨_, rfl⟩
      rw [← hacc]
      have hal : acc.size ≤ 100 := by
        rw [hacc, mk_size]
        have := dotJoin_le ((xs.take k).map tl) (fun y hy => H6.out y (by
          obtain ⟨z, hz, rfl⟩ := List.mem_map.1 hy
          exact List.mem_map_of_mem (List.mem_of_mem_take hz)))
        rw [List.length_map, List.length_take] at this
        omega
      have HA : Hid (acc = mk (dotJoin ((xs.take k).map tl))) := hacc
      clear hacc
      have hq1 : ¬ 9223372036854775807 < acc.size + 1 := by omega
      have hq2 : ¬ 9223372036854775807 < acc.size + 1 + x.size := by omega
      have hq3 : ¬ 9223372036854775807 < acc.size + x.size := by omega
      by_cases h0 : k = 0
      · subst h0
        rw [Nat.add_zero] at hcx
        go_wp2
        go_roundw
        case rel => exact ⟨0 + 1, hlt, by go_num, by rw [HA.out, joined_first HX.out], hbr⟩
        case measure => simp [intOf]; omega
      · go_wp2
        go_roundw
        case rel => exact ⟨k + 1, hlt, by go_num, by rw [← joined_next (by omega) HX.out HA.out], hbr⟩
        case measure => simp [intOf]; omega
    · go_wp2
      go_ret
      have e : k = xs.length := by omega
      subst e
      exact ⟨ret_str (by rw [List.take_length]), hbr⟩
end Go.Proofs.YtefdokkadckbbaaGreatDoor
