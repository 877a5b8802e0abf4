/- wire.together, wire.nameBytes: the bytes of a name. -/
import Derived.Test.YtefdokkadckbbaaGreatDoorA8
namespace Go.Proofs.YtefdokkadckbbaaGreatDoor
open Go.RowKit
set_option maxRecDepth 100000

def mk (l : List UInt8) : ByteArray := ⟨l.toArray⟩
theorem tl_mk' (l : List UInt8) : tl (mk l) = l := tl_mk l
theorem mk_tl (s : ByteArray) : mk (tl s) = s := tl_inj (tl_mk _)
theorem mk_size (l : List UInt8) : (mk l).size = l.length := by rw [← tl_length, tl_mk']
theorem b1_mk (n : Int) : b1 n = mk [byte n] := rfl
theorem b2_mk (n : Int) : b2 n = mk [byte n, byte (n / 256)] := rfl
theorem ret_str {a b : ByteArray} (h : a = b) : Ending.returned (.string a) = .returned (.string b) := by rw [h]

theorem join_flat (xs : List (List UInt8)) : Lib.join xs [] = xs.flatten := by
  cases xs with
  | nil => rfl
  | cons x r =>
    rw [Lib.join_cons, List.flatten_cons]
    unfold Lib.joinTail
    simp

/-- The parts, put together. -/
def flat (xs : List ByteArray) : List UInt8 := (xs.map tl).flatten
theorem flat_append (xs ys : List ByteArray) : flat (xs ++ ys) = flat xs ++ flat ys := by simp [flat]

set_option maxHeartbeats 400000 in
theorem together_any (v : Value) (xs : List ByteArray) (w : World) (hv : StrSl w v xs) (hN : xs.length ≤ 1048576) (hlen : (flat xs).length ≤ 1048576) :
    Calls Tryz.prog 175 #[v] w fun e w' => e = .returned (.string (mk (flat xs))) ∧ Below w.heap.size w w' := by
  rcases hv with ⟨rfl, rfl⟩ | ⟨g, o, c, rfl, hg, hc, hcell⟩
  · go_enter Tryz.func175, Tryz.ntmps175
    go_wp2_with (go_at_call 239; refine (Tryz.strings_Join_none none 0 ⟨#[]⟩ _).mono ?_; rintro e w' ⟨rfl, rfl⟩)
    go_ret
    exact ⟨rfl, Below.refl _ _⟩
  · have hj : Lib.join (xs.map (·.data.toList)) (ByteArray.mk #[]).data.toList = flat xs := join_flat _
    have HC : Hid (∀ j x, xs[j]? = some x → w.cell? ⟨g, o + j, none⟩ = some (.string x)) := hcell
    clear hcell
    go_enter Tryz.func175, Tryz.ntmps175
    go_wp2_with (go_at_call 239; refine (Tryz.strings_Join g o c xs ⟨#[]⟩ _ HC.out hg (by omega) hc (by rw [hj]; omega)).mono ?_; rw [hj]; rintro e w' ⟨rfl, hb⟩)
    go_ret
    exact ⟨rfl, hb⟩

theorem _root_.Go.World.ownsRow.below {w w' : World} {base : Nat} {e : TypeId} {size : Nat} {v : Value} {n : Nat} {xs : List Value} (h : w.ownsRow base e size v n xs) (hb : Below w.heap.size w w') : w'.ownsRow base e size v n xs := by
  obtain ⟨hl, h | ⟨g, cap, cur, hv, hg, hh, r⟩⟩ := h
  · exact ⟨hl, .inl h⟩
  · exact ⟨hl, .inr ⟨g, cap, cur, hv, hg, (by rw [hb.block g (Array.getElem?_eq_some_iff.1 hh).1]; exact hh), r⟩⟩

/-- Labels, written as a name. -/
def labsW (L : List (List UInt8)) : List UInt8 := (L.map labW).flatten ++ [0]
theorem nameW_eq (s : List UInt8) : nameW s = labsW (labs s) := rfl

/-- The parts of a name: of each label its length and itself. -/
def pp : List ByteArray → List ByteArray
  | [] => []
  | x :: r => b1 x.size :: x :: pp r
theorem pp_append (xs ys : List ByteArray) : pp (xs ++ ys) = pp xs ++ pp ys := by
  induction xs with
  | nil => rfl
  | cons x r ih => simp [pp, ih]
theorem pp_length (xs : List ByteArray) : (pp xs).length = 2 * xs.length := by
  induction xs with
  | nil => rfl
  | cons x r ih => simp [pp, ih]; omega
theorem pp_next {xs : List ByteArray} {k : Nat} {x : ByteArray} (h : xs[k]? = some x) : pp (xs.take (k + 1)) = pp (xs.take k) ++ [b1 x.size, x] := by
  rw [List.take_add_one, h, pp_append]; rfl
theorem flat_pp (xs : List ByteArray) : flat (pp xs) = ((xs.map tl).map labW).flatten := by
  induction xs with
  | nil => rfl
  | cons x r ih =>
    have : flat (pp (x :: r)) = tl (b1 x.size) ++ (tl x ++ flat (pp r)) := by simp [flat, pp]
    rw [this, ih, b1_mk, tl_mk']
    simp [labW, byte, tl_length]

theorem pp_step {w wr w1 w2 : World} {ss : List ByteArray} {k : Nat} {x : ByteArray} {v v' : Value} {o : Obj} (hx : ss[k]? = some x)
    (hown : wr.ownsRow w.heap.size 9 1 v (pp (ss.take k)).length ((pp (ss.take k)).map Value.string)) (hb : Below w.heap.size w wr) (hb1 : Below wr.heap.size wr w1)
    (hown' : w2.ownsRow w.heap.size 9 1 v' ((pp (ss.take k)).length + 2) ((pp (ss.take k)).map Value.string ++ [.string (b1 x.size), .string x]))
    (hg : (w1.alloc o).grownBy w2 v.ownBlock) :
    w2.ownsRow w.heap.size 9 1 v' (pp (ss.take (k + 1))).length ((pp (ss.take (k + 1))).map Value.string) ∧ Below w.heap.size w w2 := by
  have hb2 : Below w.heap.size w w1 := hb.trans (hb1.mono hb.size)
  refine ⟨?_, (hb2.alloc hb2.size o).grown hg (by have := hb2.size; simp; omega) (own_ge hown)⟩
  rw [pp_next hx]
  simpa using hown'

theorem StrSl.any {w : World} {v : Value} {xs : List ByteArray} (h : StrSl w v xs) : ∃ a c, v = .slice a xs.length c ∧ ∀ (j : Nat) (x : ByteArray), xs[j]? = some x → ∃ g o, a = some ⟨g, o, none⟩ ∧ g < w.heap.size ∧ w.cell? ⟨g, o + j, none⟩ = some (.string x) := by
  rcases h with ⟨rfl, rfl⟩ | ⟨g, o, c, rfl, hg, hc, hcell⟩
  · exact ⟨none, 0, rfl, fun j x h => by simp at h⟩
  · exact ⟨_, c, rfl, fun j x h => ⟨g, o, rfl, hg, hcell j x h⟩⟩

theorem pp_last {w wr w1 w2 : World} {ss : List ByteArray} {v v' : Value} {o : Obj}
    (hown : wr.ownsRow w.heap.size 9 1 v (pp ss).length ((pp ss).map Value.string)) (hb : Below w.heap.size w wr) (hb1 : Below wr.heap.size wr w1)
    (hown' : w2.ownsRow w.heap.size 9 1 v' ((pp ss).length + 1) ((pp ss).map Value.string ++ [.string (b1 0)]))
    (hg : (w1.alloc o).grownBy w2 v.ownBlock) :
    StrSl w2 v' (pp ss ++ [b1 0]) ∧ Below w.heap.size w w2 := by
  have hb2 : Below w.heap.size w w1 := hb.trans (hb1.mono hb.size)
  refine ⟨StrSl_of_owns (base := w.heap.size) (by simpa using hown'), (hb2.alloc hb2.size o).grown hg (by have := hb2.size; simp; omega) (own_ge hown)⟩

theorem flat_pp_le (ss : List ByteArray) (h6 : ∀ (j : Nat) (x : ByteArray), ss[j]? = some x → x.size ≤ 6) : (flat (pp ss)).length ≤ 7 * ss.length := by
  induction ss with
  | nil => simp [pp, flat]
  | cons x r ih =>
    have h1 := h6 0 x rfl
    have h2 := ih (fun j y hy => h6 (j + 1) y (by simpa using hy))
    have : flat (pp (x :: r)) = tl (b1 x.size) ++ (tl x ++ flat (pp r)) := by simp [flat, pp]
    rw [this, b1_mk, tl_mk']
    simp [tl_length]; omega

set_option maxHeartbeats 1000000 in
theorem nameBytes_any (v : Value) (ss : List ByteArray) (w : World) (hv : StrSl w v ss) (h5 : ss.length ≤ 5) (h6 : ∀ (j : Nat) (x : ByteArray), ss[j]? = some x → x.size ≤ 6) :
    Calls Tryz.prog 179 #[v] w fun e w' => e = .returned (.string (mk (labsW (ss.map tl)))) ∧ Below w.heap.size w w' := by
  obtain ⟨i0, hi, hz0, hz1, hz2⟩ := info_parts info9
  have hflat : flat (pp ss ++ [b1 0]) = labsW (ss.map tl) := by rw [flat_append, flat_pp]; rfl
  obtain ⟨a, c, rfl, hcell⟩ := hv.any
  · have HC : Hid (∀ (j : Nat) (x : ByteArray), ss[j]? = some x → ∃ g o, a = some ⟨g, o, none⟩ ∧ g < w.heap.size ∧ w.cell? ⟨g, o + j, none⟩ = some (.string x)) := hcell
    have H6 : Hid (∀ (j : Nat) (x : ByteArray), ss[j]? = some x → x.size ≤ 6) := h6
    have HF : Hid (flat (pp ss ++ [b1 0]) = labsW (ss.map tl)) := hflat
    clear hcell h6 hflat
    go_enter Tryz.func179, Tryz.ntmps179
    go_wp2_with (at_make; refine wpList_make_own _ rfl _ _ 42 rfl w.heap.size 9 i0 (.string ByteArray.empty) 1 u106 hi hz0 hz1 _ _ _ (2 * ss.length + 1) rfl rfl (by omega) ?b2 ?b3 (Nat.le_refl _) ?_)
    case b2 => rw [hz2]; omega
    case b3 => unfold maxLen; omega
    intro w0 hown0 hgrow0
    have hB0 : Below w.heap.size w w0 := (Below.refl _ _).grown hgrow0 (Nat.le_refl _) (fun k h => by cases h)
    clear hgrow0
    go_wp2
    go_loopw [3, 13] (fun v i wr => ∃ k : Nat, k ≤ ss.length ∧ i = .int .i64 k ∧ wr.ownsRow w.heap.size 9 1 v (pp (ss.take k)).length ((pp (ss.take k)).map Value.string) ∧ Below w.heap.size w wr) (fun _ i _ => ss.length - (intOf i).toNat)
    case atStart => exact ⟨0, Nat.zero_le _, rfl, hown0, hB0⟩
    case round =>
      obtain ⟨k, hk, rfl, hown, hb⟩ := hrel
      by_cases hlt : k < ss.length
      · obtain ⟨x, hx⟩ := get_at hlt
        obtain ⟨g, o, rfl, hg, hcx0⟩ := HC.out k x hx
        have hcx : wr.cell? ⟨g, o + k, none⟩ = some (.string x) := (hb.cell (p := ⟨g, o + k, none⟩) hg).trans hcx0
        clear hcx0
        have hx6 := H6.out k x hx
        have HX : Hid (ss[k]? = some x) := hx
        clear hx
        have hpl : (pp (ss.take k)).length ≤ 10 := by rw [pp_length, List.length_take]; omega
        go_wp2_with fail
        refine (oneByte_any _ _).mono ?_
        rintro e w1 ⟨rfl, hb1⟩
        go_wp2_with (first
            | (at_builtin; refine wpList_append_own _ rfl _ _ 42 rfl w.heap.size 9 i0 (.string ByteArray.empty) 1 16 u106 hi hz0 hz1 hz2 rfl (by decide) _ _ _ rfl ((hown.below hb1).alloc _) ⟨w1.heap.size, 0, none⟩ 2 2 [.string (b1 x.size), .string x] rfl rfl ?c1 ?c2 ?c3 ?c4 ?c5 ?_))
        case c1 =>
          intro j u hj
          match j, hj with
          | 0, hj => simp at hj; subst hj; simp [Addr.add]
          | 1, hj => simp at hj; subst hj; simp [Addr.add]
        case c2 => intro u hu; simp at hu; rcases hu with rfl | rfl <;> rfl
        case c3 => unfold maxLen; omega
        case c4 => omega
        case c5 => have := hb.size; have := hb1.size; simp; omega
        intro v' w2 hown' hgrow _
        have R := pp_step HX.out hown hb hb1 hown' hgrow
        clear hown' hgrow hown
        go_wp2
        go_roundw
        case rel => exact ⟨k + 1, hlt, by go_num, R.1, R.2⟩
        case measure => simp [intOf]; omega
      · have hk' : ss.take k = ss := List.take_of_length_le (by omega)
        rw [hk'] at hown
        clear hk'
        have hpl : (pp ss).length ≤ 10 := by rw [pp_length]; omega
        go_wp2_with fail
        refine (oneByte_any _ _).mono ?_
        rintro e w1 ⟨rfl, hb1⟩
        go_wp2_with (first
            | (at_builtin; refine wpList_append_own _ rfl _ _ 42 rfl w.heap.size 9 i0 (.string ByteArray.empty) 1 16 u106 hi hz0 hz1 hz2 rfl (by decide) _ _ _ rfl ((hown.below hb1).alloc _) ⟨w1.heap.size, 0, none⟩ 1 1 [.string (b1 0)] rfl rfl ?d1 ?d2 ?d3 ?d4 ?d5 ?_))
        case d1 =>
          intro j u hj
          match j, hj with
          | 0, hj => simp at hj; subst hj; simp [Addr.add]
        case d2 => intro u hu; simp at hu; subst hu; rfl
        case d3 => unfold maxLen; omega
        case d4 => omega
        case d5 => have := hb.size; have := hb1.size; simp; omega
        intro v' w2 hown' hgrow _
        have R := pp_last hown hb hb1 hown' hgrow
        have hfl := flat_pp_le ss H6.out
        clear hown' hgrow hown
        go_wp2_with fail
        refine (together_any v' (pp ss ++ [b1 0]) _ R.1 (by simp; omega) (by rw [flat_append]; simp [flat, b1_mk, tl_mk'] at hfl ⊢; omega)).mono ?_
        rintro e w3 ⟨rfl, hb3⟩
        go_wp2
        go_ret
        exact ⟨ret_str (congrArg mk HF.out), R.2.trans (hb3.mono R.2.size)⟩
end Go.Proofs.YtefdokkadckbbaaGreatDoor
