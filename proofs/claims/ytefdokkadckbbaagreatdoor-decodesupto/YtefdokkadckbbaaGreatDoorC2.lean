/- The reference's written: a name. -/
import Derived.Test.YtefdokkadckbbaaGreatDoorC1
namespace Go.Proofs.YtefdokkadckbbaaGreatDoor
open Go.RowKit
set_option maxRecDepth 100000

/-- bytes, of one, two, three, four numbers. -/
theorem bytes_1 (x : Int) (g : Nat) (w : World) (hx : 0 ≤ x ∧ x ≤ 1048576) (hg : g < w.heap.size) (h0 : w.cell? ⟨g, 0, none⟩ = some (.int .i64 x)) :
    Calls Tryz.prog 158 #[.slice (some ⟨g, 0, none⟩) 1 1] w fun e w' => e = .returned (.string (mk [byte x])) ∧ Below w.heap.size w w' :=
  bytes_any g 0 1 [x] w hg (fun j y hj => by
    match j, hj with
    | 0, hj => simp at hj; subst hj; exact h0) (by simpa using hx) (by simp)
theorem bytes_2 (x y : Int) (g : Nat) (w : World) (hx : 0 ≤ x ∧ x ≤ 1048576) (hy : 0 ≤ y ∧ y ≤ 1048576) (hg : g < w.heap.size) (h0 : w.cell? ⟨g, 0, none⟩ = some (.int .i64 x)) (h1 : w.cell? ⟨g, 1, none⟩ = some (.int .i64 y)) :
    Calls Tryz.prog 158 #[.slice (some ⟨g, 0, none⟩) 2 2] w fun e w' => e = .returned (.string (mk [byte x, byte y])) ∧ Below w.heap.size w w' :=
  bytes_any g 0 2 [x, y] w hg (fun j z hj => by
    match j, hj with
    | 0, hj => simp at hj; subst hj; exact h0
    | 1, hj => simp at hj; subst hj; exact h1) (by simp; omega) (by simp)
theorem bytes_3 (x y z : Int) (g : Nat) (w : World) (hx : 0 ≤ x ∧ x ≤ 1048576) (hy : 0 ≤ y ∧ y ≤ 1048576) (hz : 0 ≤ z ∧ z ≤ 1048576) (hg : g < w.heap.size) (h0 : w.cell? ⟨g, 0, none⟩ = some (.int .i64 x)) (h1 : w.cell? ⟨g, 1, none⟩ = some (.int .i64 y)) (h2 : w.cell? ⟨g, 2, none⟩ = some (.int .i64 z)) :
    Calls Tryz.prog 158 #[.slice (some ⟨g, 0, none⟩) 3 3] w fun e w' => e = .returned (.string (mk [byte x, byte y, byte z])) ∧ Below w.heap.size w w' :=
  bytes_any g 0 3 [x, y, z] w hg (fun j u hj => by
    match j, hj with
    | 0, hj => simp at hj; subst hj; exact h0
    | 1, hj => simp at hj; subst hj; exact h1
    | 2, hj => simp at hj; subst hj; exact h2) (by simp; omega) (by simp)
theorem bytes_4 (x y z t : Int) (g : Nat) (w : World) (hx : 0 ≤ x ∧ x ≤ 1048576) (hy : 0 ≤ y ∧ y ≤ 1048576) (hz : 0 ≤ z ∧ z ≤ 1048576) (ht : 0 ≤ t ∧ t ≤ 1048576) (hg : g < w.heap.size) (h0 : w.cell? ⟨g, 0, none⟩ = some (.int .i64 x)) (h1 : w.cell? ⟨g, 1, none⟩ = some (.int .i64 y)) (h2 : w.cell? ⟨g, 2, none⟩ = some (.int .i64 z)) (h3 : w.cell? ⟨g, 3, none⟩ = some (.int .i64 t)) :
    Calls Tryz.prog 158 #[.slice (some ⟨g, 0, none⟩) 4 4] w fun e w' => e = .returned (.string (mk [byte x, byte y, byte z, byte t])) ∧ Below w.heap.size w w' :=
  bytes_any g 0 4 [x, y, z, t] w hg (fun j u hj => by
    match j, hj with
    | 0, hj => simp at hj; subst hj; exact h0
    | 1, hj => simp at hj; subst hj; exact h1
    | 2, hj => simp at hj; subst hj; exact h2
    | 3, hj => simp at hj; subst hj; exact h3) (by simp; omega) (by simp)

theorem tl_append (a b : ByteArray) : tl (a ++ b) = tl a ++ tl b := by simp [tl]
theorem pp_str {ss : List ByteArray} {k : Nat} {x acc : ByteArray} (ha : acc = mk (flat (pp (ss.take k)))) (hx : ss[k]? = some x) : acc ++ mk [byte (x.size : Int)] ++ x = mk (flat (pp (ss.take (k + 1)))) := by
  apply tl_inj
  rw [tl_append, tl_append, ha, tl_mk', tl_mk', tl_mk', pp_next hx, flat_append]
  simp [flat, b1_mk, tl_mk']
theorem bel1 {W0 wA : World} {c0 : Prop} (h : c0 ∧ Below W0.heap.size W0 wA) : Below W0.heap.size W0 wA := h.2
theorem keep1 {g o : Nat} {W0 wA wB : World} {v0 : Value} (hg : g < W0.heap.size)
    (h : wA.cell? ⟨g, o, none⟩ = some v0 ∧ Below W0.heap.size W0 wA) (hb : Below wA.heap.size wA wB) :
    wB.cell? ⟨g, o, none⟩ = some v0 ∧ Below W0.heap.size W0 wB := by
  obtain ⟨h0, h8⟩ := h
  have hlt : g < wA.heap.size := Nat.lt_of_lt_of_le hg h8.size
  rw [hb.cell (p := ⟨g, _, none⟩) hlt]
  exact ⟨h0, h8.trans (hb.mono h8.size)⟩

set_option maxHeartbeats 2000000 in
theorem written_any (s : ByteArray) (w : World) (hn : nameOk (tl s) = true) :
    Calls Tryz.prog 159 #[.string s] w fun e w' => e = .returned (.string (mk (nameW (tl s)))) ∧ Below w.heap.size w w' := by
  have hs := nameOk_small hn
  go_enter Tryz.func159, Tryz.ntmps159
  go_wp2_with fail
  refine (split_any s _ hs).mono ?_
  rintro e w1 ⟨v, ss, rfl, hmap, hsl, hb⟩
  obtain ⟨h5, h6⟩ := nameOk_parts hmap hn
  obtain ⟨a, c, rfl, hcell⟩ := hsl.any
  have HM : Hid (ss.map tl = labs (tl s)) := hmap
  have HC : Hid (∀ (j : Nat) (x : ByteArray), ss[j]? = some x → ∃ g o, a = some ⟨g, o, none⟩ ∧ g < w1.heap.size ∧ w1.cell? ⟨g, o + j, none⟩ = some (.string x)) := hcell
  have H6 : Hid (∀ (j : Nat) (x : ByteArray), ss[j]? = some x → x.size ≤ 6) := h6
  clear hmap hcell h6 hsl
  go_wp2
  go_loopw [3, 5] (fun v i wr => ∃ k : Nat, k ≤ ss.length ∧ i = .int .i64 k ∧ v = .string (mk (flat (pp (ss.take k)))) ∧ Below w1.heap.size w1 wr) (fun _ i _ => ss.length - (intOf i).toNat)
  case atStart => exact ⟨0, Nat.zero_le _, rfl, rfl, Below.refl _ _⟩
  case round =>
    obtain ⟨k, hk, rfl, rfl, hbr⟩ := hrel
    by_cases hlt : k < ss.length
    · obtain ⟨x, hx⟩ := get_at hlt
      obtain ⟨g, o, rfl, hg, hcx0⟩ := HC.out k x hx
      have hcx : wr.cell? ⟨g, o + k, none⟩ = some (.string x) := (hbr.cell (p := ⟨g, o + k, none⟩) hg).trans hcx0
      clear hcx0
      have hx6 := H6.out k x hx
      have HX : Hid (ss[k]? = some x) := hx
      clear hx
      have hgr : g < wr.heap.size := Nat.lt_of_lt_of_le hg hbr.size
      obtain ⟨acc, hacc⟩ : ∃ acc, acc = mk (flat (pp (ss.take k))) := ⟨_, rfl⟩
      rw [← hacc]
      have hal : acc.size ≤ 100 := by
        rw [hacc, mk_size]
        have := flat_pp_le (ss.take k) (fun j y hy => H6.out j y (by rw [List.getElem?_take] at hy; split at hy <;> simp_all))
        rw [List.length_take] at this
        omega
      have HA : Hid (acc = mk (flat (pp (ss.take k)))) := hacc
      clear hacc
      have hB0 : Below wr.heap.size wr wr := Below.refl _ _
      have hB0d : Below wr.heap.size wr wr.drew := (Below.refl _ _).drew
      have hq1 : ¬ 9223372036854775807 < acc.size + 1 := by omega
      have hq2 : ¬ 9223372036854775807 < acc.size + 1 + x.size := by omega
      go_wp2
      go_region_held3 (fun w' => w'.cell? ⟨g, o + k, none⟩ = some (.string x) ∧ Below wr.heap.size wr w')
        (first | exact keep1 hgr (by assumption) (by assumption) | exact keep1 hgr (by assumption) (keepA _ _) | go_keep)
        (first
          | (go_at_call 158; refine (bytes_1 (x.size : Int) _ _ (by omega) (by simp) (by simp)).mono ?_; rintro e wE ⟨rfl, hbE⟩; have hmz := mk_size [byte (x.size : Int)]; simp only [List.length_cons, List.length_nil, Nat.zero_add] at hmz))
      have hend : Below w1.heap.size w1 wE := hbr.step (Nat.le_refl _) (bel1 (wA := wE) (by assumption))
      have HS : Hid (acc ++ mk [byte (x.size : Int)] ++ x = mk (flat (pp (ss.take (k + 1))))) := pp_str HA.out HX.out
      go_wp2
      go_roundw
      case rel => exact ⟨k + 1, hlt, by go_num, congrArg Value.string HS.out, hend⟩
      case measure => simp [intOf]; omega
    · have hk' : ss.take k = ss := List.take_of_length_le (by omega)
      rw [hk']
      clear hk'
      have hfl := flat_pp_le ss H6.out
      obtain ⟨acc, hacc⟩ : ∃ acc, acc = mk (flat (pp ss)) := ⟨_, rfl⟩
      have hal : acc.size ≤ 100 := by rw [hacc, mk_size]; omega
      rw [← hacc]
      have HA : Hid (acc = mk (flat (pp ss))) := hacc
      clear hacc hfl
      go_wp2_with fail
      refine (bytes_1 0 _ _ (by omega) (by simp) (by simp)).mono ?_
      rintro e wE ⟨rfl, hbE⟩
      have hmz : (mk [byte 0]).size = 1 := mk_size _
      have hB2 : Below w.heap.size w wE := ((hb.step (Nat.le_refl _) hbr).alloc (hb.step (Nat.le_refl _) hbr).size _).step (Nat.le_refl _) hbE
      have HS : Hid (acc ++ mk [byte 0] = mk (nameW (tl s))) := by
        show _ = _
        rw [HA.out, nameW_eq, ← HM.out]
        apply tl_inj
        rw [tl_append, tl_mk', tl_mk', tl_mk', flat_pp]
        rfl
      go_wp2
      go_ret
      exact ⟨ret_str HS.out, hB2⟩
end Go.Proofs.YtefdokkadckbbaaGreatDoor
