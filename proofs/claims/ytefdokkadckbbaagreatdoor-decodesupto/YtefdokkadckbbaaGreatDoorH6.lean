/- names.Join; the reader's name and record. -/
import Derived.Test.YtefdokkadckbbaaGreatDoorH5
namespace Go.Proofs.YtefdokkadckbbaaGreatDoor
open Go.RowKit
set_option maxRecDepth 100000

/-- A name of labels. -/
def dotJoin (L : List (List UInt8)) : List UInt8 := Lib.join L [46]

set_option maxHeartbeats 400000 in
theorem Join_any (v : Value) (xs : List ByteArray) (w : World) (hv : StrSl w v xs) (hN : xs.length ≤ 5) (h6 : ∀ x ∈ xs.map tl, x.length ≤ 6) :
    Calls Tryz.prog 189 #[v] w fun e w' => e = .returned (.string (mk (dotJoin (xs.map tl)))) ∧ Below w.heap.size w w' := by
  rcases hv with ⟨rfl, rfl⟩ | ⟨g, o, c, rfl, hg, hc, hcell⟩
  · go_enter Tryz.func189, Tryz.ntmps189
    go_wp2_with (go_at_call 239; refine (Tryz.strings_Join_none none 0 ⟨#[46]⟩ _).mono ?_; rintro e w' ⟨rfl, rfl⟩)
    go_ret
    exact ⟨rfl, Below.refl _ _⟩
  · have hj : Lib.join (xs.map (·.data.toList)) (ByteArray.mk #[46]).data.toList = dotJoin (xs.map tl) := rfl
    have hlen : (dotJoin (xs.map tl)).length ≤ 1000 := by
      unfold dotJoin
      have : ∀ L : List (List UInt8), (∀ x ∈ L, x.length ≤ 6) → (Lib.join L [46]).length ≤ 7 * L.length := by
        intro L hL
        cases L with
        | nil => simp [Lib.join_nil]
        | cons y r =>
          rw [Lib.join_length]
          have hl : ∀ r : List (List UInt8), (∀ x ∈ r, x.length ≤ 6) → Lib.lens r ≤ 6 * r.length := by
            intro r hr
            induction r with
            | nil => simp [Lib.lens]
            | cons z q ih =>
              have h1 := hr z (by simp)
              have h2 := ih (fun x hx => hr x (by simp [hx]))
              simp [Lib.lens] at h2 ⊢; omega
          have := hl (y :: r) hL
          simp at this ⊢
          omega
      have h := this (xs.map tl) h6
      rw [List.length_map] at h
      omega
    have HC : Hid (∀ j x, xs[j]? = some x → w.cell? ⟨g, o + j, none⟩ = some (.string x)) := hcell
    clear hcell h6
    go_enter Tryz.func189, Tryz.ntmps189
    go_wp2_with (go_at_call 239; refine (Tryz.strings_Join g o c xs ⟨#[46]⟩ _ HC.out hg (by omega) hc (by rw [hj]; omega)).mono ?_; rw [hj]; rintro e w' ⟨rfl, hb⟩)
    go_ret
    exact ⟨rfl, hb⟩

/-- A name, read. -/
def nameS (t : List UInt8) (n : Nat) : Option (List UInt8 × Nat) := (lblS t n n).bind fun x => if x.1.length ≤ 5 then some (dotJoin x.1, x.2) else none

set_option maxHeartbeats 1000000 in
theorem nameR (R : Nat) (s : ByteArray) (n : Nat) (w : World) (hr : Rd R s n w) (hs : s.size ≤ 1000) (hn : n ≤ 1000) :
    Calls Tryz.prog 140 #[.pointer (some ⟨R, 0, none⟩)] w (Res R s w (fun l => Value.string (mk l)) (nameS (tl s) n)) := by
  cases h0 : lblS (tl s) n n with
  | none =>
    rw [show nameS (tl s) n = none by simp [nameS, h0]]
    go_enter Tryz.func140, Tryz.ntmps140
    go_wp2_with fail
    refine (LRes.no (labelsR s hs n R _ hn hr) h0).mono ?_
    rintro e w1 ⟨rfl, o1⟩
    exact ⟨rfl, o1, rfl⟩
  | some x =>
    obtain ⟨l, m⟩ := x
    obtain ⟨_, hall, _, _⟩ := lblS_len _ _ _ _ _ h0
    by_cases h5 : l.length ≤ 5
    · rw [show nameS (tl s) n = some (dotJoin l, m) by simp [nameS, h0, h5]]
      have h6 : ∀ x ∈ l, x.length ≤ 6 := fun x hx => by
        have := List.all_eq_true.1 hall x hx
        unfold labOk at this
        rw [Bool.and_eq_true] at this
        have := of_decide_eq_true this.1
        omega
      have H6 : Hid (∀ x ∈ l, x.length ≤ 6) := h6
      clear h6 hall
      go_enter Tryz.func140, Tryz.ntmps140
      go_wp2_with fail
      refine (LRes.ok (labelsR s hs n R _ hn hr) h0).mono ?_
      rintro e w1 ⟨v, ss, rfl, hmap, hsl, r1, o1⟩
      have hl5 : ss.length ≤ 5 := by rw [← List.length_map (f := tl), hmap]; exact h5
      have HM : Hid (ss.map tl = l) := hmap
      clear hmap
      obtain ⟨a, c, rfl, _⟩ := hsl.any
      go_wp2_with fail
      refine (must_yes _ _ (by first | rfl | (simp; omega))).mono ?_
      rintro e w' ⟨rfl, rfl⟩
      go_wp2_with fail
      refine (Join_any _ ss _ hsl hl5 (by rw [HM.out]; exact H6.out)).mono ?_
      rintro e w2 ⟨rfl, hb⟩
      go_wp2
      go_ret
      exact ⟨o1.trans (Only.ofBelow hb), ret_str (by rw [HM.out]), r1.below hb⟩
    · rw [show nameS (tl s) n = none by simp [nameS, h0, h5]]
      clear hall
      go_enter Tryz.func140, Tryz.ntmps140
      go_wp2_with fail
      refine (LRes.ok (labelsR s hs n R _ hn hr) h0).mono ?_
      rintro e w1 ⟨v, ss, rfl, hmap, hsl, r1, o1⟩
      have hl5 : ¬ ss.length ≤ 5 := by rw [← List.length_map (f := tl), hmap]; exact h5
      clear hmap
      obtain ⟨a, c, rfl, _⟩ := hsl.any
      go_wp2_with fail
      refine (must_not _ _ (by first | rfl | (simp; omega))).mono ?_
      rintro e w' ⟨rfl, rfl⟩
      exact ⟨rfl, o1, rfl⟩
end Go.Proofs.YtefdokkadckbbaaGreatDoor
