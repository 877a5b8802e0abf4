/- A2 A3 A4 A5 A6 A7 A8 B1 B2 B3 B4 -/
import Derived.Test.YtefdokkadckbbaaGreatDoorZ01
import Derived.Test.YtefdokkadckbbaaGreatDoorZ02
import Derived.Test.YtefdokkadckbbaaGreatDoorZ03
import Derived.Deep.RegionHeld3
section
namespace Go.Proofs.YtefdokkadckbbaaGreatDoor
open Go.RowKit
set_option maxRecDepth 100000
def isLab (s : ByteArray) : Bool := labOk (tl s)
theorem take_snoc (s : ByteArray) (k : Nat) (h : k < s.size) : s.data.toList.take (k + 1) = s.data.toList.take k ++ [s[k]] := by
 rw [List.take_succ_eq_append_getElem (by simpa using h)]; rfl
theorem all_snoc (s : ByteArray) (k : Nat) (h : k < s.size) (ha : (s.data.toList.take k).all low = true) (hl : low s[k] = true) : (s.data.toList.take (k + 1)).all low = true := by
 rw [take_snoc s k h, List.all_append, ha]; simp [hl]
theorem all_no (s : ByteArray) (k : Nat) (h : k < s.size) (hl : low s[k] = false) : s.data.toList.all low = false := by
 rw [List.all_eq_false]
 exact ⟨s[k], by rw [ByteArray.getElem_eq_getElem_data]; simp, by simp [hl]⟩
theorem low_yes {c : UInt8} (h1 : ¬ (c.toNat : Int) < 97) (h2 : ¬ (122 : Int) < c.toNat) : low c = true := by
 unfold low; exact decide_eq_true (by omega)
theorem low_no {c : UInt8} (h : (c.toNat : Int) < 97 ∨ (122 : Int) < c.toNat) : low c = false := by
 unfold low; exact decide_eq_false (by omega)
theorem ret_bool {a b : Bool} (h : a = b) : Ending.returned (.bool a) = .returned (.bool b) := by rw [h]
theorem isLab_size {s : ByteArray} (h : s.size < 1 ∨ 6 < s.size) : isLab s = false := by
 unfold isLab labOk; rw [decide_eq_false (by rw [tl_length]; omega)]; rfl
theorem isLab_all {s : ByteArray} (h1 : ¬ s.size < 1) (h2 : ¬ 6 < s.size) : isLab s = s.data.toList.all low := by
 unfold isLab labOk; rw [decide_eq_true (by rw [tl_length]; omega)]; rfl
theorem isLab_no {s : ByteArray} (k : Nat) (h : k < s.size) (hl : (s[k].toNat : Int) < 97 ∨ (122 : Int) < s[k].toNat) : isLab s = false := by
 unfold isLab labOk; rw [show (tl s).all low = false from all_no s k h (low_no hl)]; simp
theorem isLab_yes {s : ByteArray} (k : Nat) (hk : k ≤ s.size) (h : ¬ k < s.size) (h1 : ¬ s.size < 1) (h2 : ¬ 6 < s.size) (ha : (s.data.toList.take k).all low = true) : isLab s = true := by
 rw [isLab_all h1 h2]
 have : s.data.toList.take k = s.data.toList := List.take_of_length_le (by show s.data.toList.length ≤ k; have : s.data.toList.length = s.size := rfl; omega)
 rw [this] at ha; exact ha
set_option maxHeartbeats 400000 in
theorem isLabel_any (s : ByteArray) (w : World) (hs : s.size ≤ 1048576) :
  Calls Tryz.prog 237 #[.string s] w fun e w' => e = .returned (.bool (isLab s)) ∧ w' = w := by
 by_cases h1 : s.size < 1
 ·go_enter Tryz.func237, Tryz.ntmps237
  go_wp2
  go_ret
  exact ⟨ret_bool (isLab_size (.inl h1)).symm, rfl⟩
 by_cases h2 : 6 < s.size
 ·go_enter Tryz.func237, Tryz.ntmps237
  go_wp2
  go_ret
  exact ⟨ret_bool (isLab_size (.inr h2)).symm, rfl⟩
 go_enter Tryz.func237, Tryz.ntmps237
 go_wp2
 go_loop [14] (fun i => ∃ k : Nat, k ≤ s.size ∧ i = .int .i64 k ∧ (s.data.toList.take k).all low = true) (fun i => s.size - (intOf i).toNat)
 case atStart => exact ⟨0, Nat.zero_le _, rfl, rfl⟩
 case round =>
  obtain ⟨k, hk, rfl, ha⟩ := hrel
  have HA : Hid ((s.data.toList.take k).all low = true) := ha
  clear ha
  by_cases hlt : k < s.size
  ·go_wp2
   ·go_ret
    exact ⟨ret_bool (isLab_no k hlt (by omega)).symm, rfl⟩
   ·go_round
    case rel => exact ⟨k + 1, hlt, by go_num, all_snoc s k hlt HA.out (low_yes (by omega) (by omega))⟩
    case measure => simp [intOf]; omega
   ·go_ret
    exact ⟨ret_bool (isLab_no k hlt (by omega)).symm, rfl⟩
  ·go_wp2
   go_ret
   exact ⟨ret_bool (isLab_yes k hk hlt h1 h2 HA.out).symm, rfl⟩
end Go.Proofs.YtefdokkadckbbaaGreatDoor
end
section
namespace Go.Proofs.YtefdokkadckbbaaGreatDoor
open Go.RowKit
set_option maxRecDepth 100000
def StrSl (w : World) (v : Value) (xs : List ByteArray) : Prop :=
 (xs = [] ∧ v = .slice none 0 0) ∨ ∃ g o c, v = .slice (some ⟨g, o, none⟩) xs.length c ∧ g < w.heap.size ∧ xs.length ≤ c ∧ ∀ j x, xs[j]? = some x → w.cell? ⟨g, o + j, none⟩ = some (.string x)
theorem info9 : (Tryz.prog.info? 9).map (fun i => (i.zero, i.size, i.bytes)) = some (some (.string ByteArray.empty), 1, 16) := by kernel_rfl
theorem u106 : Tryz.prog.underlying 42 = some (.slice 9) := by kernel_rfl
theorem StrSl_of_owns {w : World} {base : Nat} {v : Value} {ss : List ByteArray} (h : w.ownsRow base 9 1 v ss.length (ss.map Value.string)) : StrSl w v ss := by
 obtain ⟨hl, h | ⟨g, cap, cur, hv, hg, hh, hn, hm, hc, ht⟩⟩ := h
 ·left
  exact ⟨List.length_eq_zero_iff.1 h.2, h.1⟩
 ·right
  subst hv
  have hlt : g < w.heap.size := (Array.getElem?_eq_some_iff.1 hh).1
  refine ⟨g, 0, cap, rfl, hlt, hn, fun j x hj => ?_⟩
  have hj' : j < ss.length := (List.getElem?_eq_some_iff.1 hj).1
  have hown : w.ownsRow base 9 1 (.slice (some ⟨g, 0, none⟩) ss.length cap) ss.length (ss.map Value.string) := ⟨hl, .inr ⟨g, cap, cur, rfl, hg, hh, hn, hm, hc, ht⟩⟩
  rw [Nat.zero_add, hown.cellAt j (by omega)]
  simp [hj]
def seg (s : ByteArray) (a b : Nat) : List UInt8 := ((tl s).drop a).take (b - a)
theorem seg_extract (s : ByteArray) (a b : Nat) : tl (s.extract a b) = seg s a b := by
 simp [tl, seg, ByteArray.extract, ByteArray.copySlice]
theorem seg_self (s : ByteArray) (a : Nat) : seg s a a = [] := by simp [seg]
theorem drop_cons (s : ByteArray) (k : Nat) (hk : k < s.size) : (tl s).drop k = s[k] :: (tl s).drop (k + 1) := by
 rw [List.drop_eq_getElem_cons (by simpa [tl_length] using hk)]; rfl
theorem seg_snoc (s : ByteArray) (f k : Nat) (hk : k < s.size) (hf : f ≤ k) : seg s f (k + 1) = seg s f k ++ [s[k]] := by
 unfold seg
 have h1 : k - f < ((tl s).drop f).length := by rw [List.length_drop, tl_length]; omega
 rw [show k + 1 - f = (k - f) + 1 by omega, List.take_succ_eq_append_getElem h1]
 congr 2
 rw [List.getElem_drop]
 have : f + (k - f) = k := by omega
 simp only [this]; rfl
theorem cutAcc_dot (s : ByteArray) (f k : Nat) (hk : k < s.size) (h : (s[k].toNat : Int) = 46) :
  cutAcc (seg s f k) ((tl s).drop k) = seg s f k :: cutAcc (seg s (k + 1) (k + 1)) ((tl s).drop (k + 1)) := by
 rw [drop_cons s k hk, cutAcc, if_pos (by omega), seg_self]
theorem cutAcc_letter (s : ByteArray) (f k : Nat) (hk : k < s.size) (hf : f ≤ k) (h : ¬ (s[k].toNat : Int) = 46) :
  cutAcc (seg s f k) ((tl s).drop k) = cutAcc (seg s f (k + 1)) ((tl s).drop (k + 1)) := by
 rw [drop_cons s k hk, cutAcc, if_neg (by omega), seg_snoc s f k hk hf]
theorem empty_iff (s : ByteArray) : s.toList.isEmpty = (tl s).isEmpty := by
 obtain ⟨⟨l⟩⟩ := s
 rw [show (ByteArray.mk { toList := l }) = ByteArray.mk l.toArray from rfl, ByteArray.toList_mk]
 rfl
theorem labs_ne {s : ByteArray} (h : s.toList.isEmpty = false) : labs (tl s) = cutAcc (seg s 0 0) ((tl s).drop 0) := by
 rw [empty_iff] at h
 unfold labs
 rw [if_neg (by intro e; rw [e] at h; simp at h), seg_self, List.drop_zero]
theorem own_ge {w : World} {base : Nat} {v : Value} {n : Nat} {xs : List Value} (h : w.ownsRow base 9 1 v n xs) : ∀ k, v.ownBlock = some k → base ≤ k := fun k hk => (h.lt k hk).1
theorem split_step {s : ByteArray} {w wr w1 : World} {k fr : Nat} {ss : List ByteArray} {v v' : Value} {o : Obj} (hlt : k < s.size) (hd : (s[k].toNat : Int) = 46)
  (hown : wr.ownsRow w.heap.size 9 1 v ss.length (ss.map Value.string)) (hown' : w1.ownsRow w.heap.size 9 1 v' (ss.length + 1) (ss.map Value.string ++ [.string (s.extract fr k)]))
  (hg : (wr.alloc o).grownBy w1 v.ownBlock) (hb : Below w.heap.size w wr) (hc : ss.map tl ++ cutAcc (seg s fr k) ((tl s).drop k) = labs (tl s)) :
  w1.ownsRow w.heap.size 9 1 v' (ss ++ [s.extract fr k]).length ((ss ++ [s.extract fr k]).map Value.string) ∧ Below w.heap.size w w1 ∧
   (ss ++ [s.extract fr k]).map tl ++ cutAcc (seg s (k + 1) (k + 1)) ((tl s).drop (k + 1)) = labs (tl s) := by
 refine ⟨by simpa using hown', (hb.alloc hb.size o).grown hg (by have := hb.size; simp; omega) (own_ge hown), ?_⟩
 rw [← hc, cutAcc_dot s fr k hlt hd, List.map_append, List.append_assoc]
 simp [seg_extract]
theorem split_last {s : ByteArray} {w wr w1 : World} {k fr : Nat} {ss : List ByteArray} {v v' : Value} {o : Obj} (hk : k ≤ s.size) (hlt : ¬ k < s.size)
  (hown : wr.ownsRow w.heap.size 9 1 v ss.length (ss.map Value.string)) (hown' : w1.ownsRow w.heap.size 9 1 v' (ss.length + 1) (ss.map Value.string ++ [.string (s.extract fr s.size)]))
  (hg : (wr.alloc o).grownBy w1 v.ownBlock) (hb : Below w.heap.size w wr) (hc : ss.map tl ++ cutAcc (seg s fr k) ((tl s).drop k) = labs (tl s)) :
  w1.ownsRow w.heap.size 9 1 v' (ss ++ [s.extract fr s.size]).length ((ss ++ [s.extract fr s.size]).map Value.string) ∧ Below w.heap.size w w1 ∧
   (ss ++ [s.extract fr s.size]).map tl = labs (tl s) := by
 refine ⟨by simpa using hown', (hb.alloc hb.size o).grown hg (by have := hb.size; simp; omega) (own_ge hown), ?_⟩
 have e : k = s.size := by omega
 subst e
 rw [← hc, List.drop_of_length_le (by rw [tl_length]; omega)]
 simp [seg_extract, cutAcc]
set_option maxHeartbeats 400000 in
theorem split_any (s : ByteArray) (w : World) (hs : s.size ≤ 1048576) :
  Calls Tryz.prog 229 #[.string s] w fun e w' => ∃ v ss, e = .returned v ∧ ss.map tl = labs (tl s) ∧ StrSl w' v ss ∧ Below w.heap.size w w' := by
 obtain ⟨i0, hi, hz0, hz1, hz2⟩ := info_parts info9
 cases h0 : s.toList.isEmpty with
 | true =>
  go_enter Tryz.func229, Tryz.ntmps229
  go_wp2
  go_ret
  exact ⟨_, [], rfl, by rw [empty_iff] at h0; have : tl s = [] := List.isEmpty_iff.1 h0; rw [this]; rfl, .inl ⟨rfl, rfl⟩, Below.refl _ _⟩
 | false =>
  go_enter Tryz.func229, Tryz.ntmps229
  go_wp2
  go_loopw [3, 4, 5] (fun v f i wr => ∃ (k fr : Nat) (ss : List ByteArray), k ≤ s.size ∧ fr ≤ k ∧ ss.length ≤ fr ∧ i = .int .i64 k ∧ f = .int .i64 fr ∧ wr.ownsRow w.heap.size 9 1 v ss.length (ss.map Value.string) ∧ Below w.heap.size w wr ∧
    ss.map tl ++ cutAcc (seg s fr k) ((tl s).drop k) = labs (tl s)) (fun _ _ i _ => s.size - (intOf i).toNat)
  case atStart => exact ⟨0, 0, [], Nat.zero_le _, Nat.le_refl _, Nat.le_refl _, rfl, rfl, World.ownsRow_nil _ _ _ _, Below.refl _ _, (labs_ne h0).symm⟩
  case round =>
   obtain ⟨k, fr, ss, hk, hf, hsl, rfl, rfl, hown, hb, hcut⟩ := hrel
   have HC : Hid (ss.map tl ++ cutAcc (seg s fr k) ((tl s).drop k) = labs (tl s)) := hcut
   clear hcut
   by_cases hlt : k < s.size
   ·by_cases hd : (s[k].toNat : Int) = 46
    ·go_wp2_with (first
      | (at_builtin; refine wpList_append_own _ rfl _ _ 42 rfl w.heap.size 9 i0 (.string ByteArray.empty) 1 16 u106 hi hz0 hz1 hz2 rfl (by decide) _ _ _ rfl (hown.alloc _) ⟨wr.heap.size, 0, none⟩ 1 1 [.string (s.extract fr k)] rfl rfl ?c1 ?c2 ?c3 ?c4 ?c5 ?_))
     case c1 =>
      intro j u hj
      match j, hj with
      | 0, hj => simp at hj; subst hj; simp [Addr.add]
     case c2 => intro u hu; simp at hu; subst hu; rfl
     case c3 => unfold maxLen; omega
     case c4 => omega
     case c5 => have := hb.size; simp; omega
     intro v' w1 hown' hgrow _
     have R := split_step hlt hd hown hown' hgrow hb HC.out
     clear hown' hgrow hown
     go_wp2
     go_roundw
     case rel => exact ⟨k + 1, k + 1, ss ++ [s.extract fr k], hlt, Nat.le_refl _, by simp; omega, by go_num, by go_num, R.1, R.2.1, R.2.2⟩
     case measure => simp [intOf]; omega
    ·go_wp2
     go_roundw
     case rel => exact ⟨k + 1, fr, ss, hlt, by omega, hsl, by go_num, rfl, hown, hb, by rw [← cutAcc_letter s fr k hlt hf hd]; exact HC.out⟩
     case measure => simp [intOf]; omega
   ·go_wp2_with (first
      | (at_builtin; refine wpList_append_own _ rfl _ _ 42 rfl w.heap.size 9 i0 (.string ByteArray.empty) 1 16 u106 hi hz0 hz1 hz2 rfl (by decide) _ _ _ rfl (hown.alloc _) ⟨wr.heap.size, 0, none⟩ 1 1 [.string (s.extract fr s.size)] rfl rfl ?d1 ?d2 ?d3 ?d4 ?d5 ?_))
    case d1 =>
     intro j u hj
     match j, hj with
     | 0, hj => simp at hj; subst hj; simp [Addr.add]
    case d2 => intro u hu; simp at hu; subst hu; rfl
    case d3 => unfold maxLen; omega
    case d4 => omega
    case d5 => have := hb.size; simp; omega
    intro v' w1 hown' hgrow _
    have R := split_last hk hlt hown hown' hgrow hb HC.out
    clear hown' hgrow hown
    go_wp2
    go_ret
    exact ⟨_, _, rfl, R.2.2, StrSl_of_owns R.1, R.2.1⟩
end Go.Proofs.YtefdokkadckbbaaGreatDoor
end
section
namespace Go.Proofs.YtefdokkadckbbaaGreatDoor
open Go.RowKit
set_option maxRecDepth 100000
theorem nameOk_of {s : ByteArray} {ss : List ByteArray} (h : ss.map tl = labs (tl s)) : nameOk (tl s) = (decide (ss.length ≤ 5) && ss.all isLab) := by
 unfold nameOk
 rw [← h, List.length_map, List.all_map]
 rfl
theorem mem_sum (xs : List (List UInt8)) (x : List UInt8) (h : x ∈ xs) : x.length ≤ (xs.map List.length).sum := by
 induction xs with
 | nil => simp at h
 | cons y r ih =>
  simp at h
  rcases h with h | h
  ·subst h; simp
  ·have := ih h; simp; omega
theorem piece_size {s : ByteArray} {ss : List ByteArray} (h : ss.map tl = labs (tl s)) {k : Nat} {x : ByteArray} (hx : ss[k]? = some x) : x.size ≤ s.size := by
 have h1 := labs_sum (tl s)
 have hm : tl x ∈ labs (tl s) := by rw [← h]; exact List.mem_map_of_mem (List.mem_of_getElem? hx)
 have h2 := mem_sum _ _ hm
 have h3 : 0 < (labs (tl s)).length := List.length_pos_of_mem hm
 rw [tl_length] at h1 h2; omega
theorem pieces_len {s : ByteArray} {ss : List ByteArray} (h : ss.map tl = labs (tl s)) : ss.length ≤ s.size + 1 := by
 have h1 := labs_sum (tl s)
 rw [← h, List.length_map] at h1
 rw [tl_length] at h1; omega
theorem nameOk_many {s : ByteArray} {ss : List ByteArray} (h : ss.map tl = labs (tl s)) (h5 : 5 < ss.length) : nameOk (tl s) = false := by
 rw [nameOk_of h, decide_eq_false (by omega)]; rfl
theorem nameOk_bad {s : ByteArray} {ss : List ByteArray} (h : ss.map tl = labs (tl s)) {k : Nat} {x : ByteArray} (hx : ss[k]? = some x) (hl : isLab x = false) : nameOk (tl s) = false := by
 rw [nameOk_of h]
 have : ss.all isLab = false := by rw [List.all_eq_false]; exact ⟨x, List.mem_of_getElem? hx, by simp [hl]⟩
 rw [this]; simp
theorem nameOk_good {s : ByteArray} {ss : List ByteArray} (h : ss.map tl = labs (tl s)) (h5 : ss.length ≤ 5) {k : Nat} (hk : ss.length ≤ k) (ha : (ss.take k).all isLab = true) : nameOk (tl s) = true := by
 rw [nameOk_of h, decide_eq_true h5]
 rw [List.take_of_length_le hk] at ha; rw [ha]; rfl
theorem all_snocS {ss : List ByteArray} {k : Nat} {x : ByteArray} (hx : ss[k]? = some x) (ha : (ss.take k).all isLab = true) (hl : isLab x = true) : (ss.take (k + 1)).all isLab = true := by
 rw [List.take_add_one, hx, List.all_append, ha]; simp [hl]
theorem get_at {ss : List ByteArray} {k : Nat} (h : k < ss.length) : ∃ x, ss[k]? = some x := ⟨ss[k], List.getElem?_eq_getElem h⟩
set_option maxHeartbeats 800000 in
theorem Name_any (s : ByteArray) (w : World) (hs : s.size ≤ 1048576) :
  Calls Tryz.prog 156 #[.string s] w fun e w' => e = .returned (.bool (nameOk (tl s))) ∧ Below w.heap.size w w' := by
 go_enter Tryz.func156, Tryz.ntmps156
 go_wp2_with fail
 refine (split_any s _ hs).mono ?_
 rintro e w1 ⟨v, ss, rfl, hmap, hsl, hb⟩
 have hlen := pieces_len hmap
 rcases hsl with ⟨rfl, rfl⟩ | ⟨g, o, c, rfl, hg, hc, hcell⟩
 ·go_wp2
  refine wp_loop_rounds 1 ?_
  rw [rounds_succ]
  go_wp2
  go_ret
  exact ⟨ret_bool (nameOk_good (k := 0) hmap (by simp) (by simp) rfl).symm, hb⟩
 ·by_cases h5 : 5 < ss.length
  ·go_wp2
   go_ret
   exact ⟨ret_bool (nameOk_many hmap h5).symm, hb⟩
  ·have HM : Hid (ss.map tl = labs (tl s)) := hmap
   clear hmap
   have HC : Hid (∀ j x, ss[j]? = some x → w1.cell? ⟨g, o + j, none⟩ = some (.string x)) := hcell
   clear hcell
   go_wp2
   go_loop [4] (fun i => ∃ k : Nat, k ≤ ss.length ∧ i = .int .i64 k ∧ (ss.take k).all isLab = true) (fun i => ss.length - (intOf i).toNat)
   case atStart => exact ⟨0, Nat.zero_le _, rfl, rfl⟩
   case round =>
    obtain ⟨k, hk, rfl, ha⟩ := hrel
    have HA : Hid ((ss.take k).all isLab = true) := ha
    clear ha
    by_cases hlt : k < ss.length
    ·obtain ⟨x, hx⟩ := get_at hlt
     have hcx := HC.out k x hx
     have hxs := piece_size HM.out hx
     have HX : Hid (ss[k]? = some x) := hx
     clear hx
     by_cases h1 : x.size < 1
     ·go_wp2
      go_ret
      exact ⟨ret_bool (nameOk_bad HM.out HX.out (isLab_size (.inl h1))).symm, hb⟩
     by_cases h2 : 6 < x.size
     ·go_wp2
      go_ret
      exact ⟨ret_bool (nameOk_bad HM.out HX.out (isLab_size (.inr h2))).symm, hb⟩
     go_wp2
     go_loop [5] (fun i => ∃ j : Nat, j ≤ x.size ∧ i = .int .i64 j ∧ (x.data.toList.take j).all low = true) (fun i => x.size - (intOf i).toNat)
     case atStart => exact ⟨0, Nat.zero_le _, rfl, rfl⟩
     case round =>
      obtain ⟨j, hj, rfl, hal⟩ := hrel
      have HL : Hid ((x.data.toList.take j).all low = true) := hal
      clear hal
      by_cases hjt : j < x.size
      ·go_wp2
       ·go_ret
        exact ⟨ret_bool (nameOk_bad HM.out HX.out (isLab_no j hjt (by omega))).symm, hb⟩
       ·go_round
        case rel => exact ⟨j + 1, hjt, by go_num, all_snoc x j hjt HL.out (low_yes (by omega) (by omega))⟩
        case measure => simp [intOf]; omega
       ·go_ret
        exact ⟨ret_bool (nameOk_bad HM.out HX.out (isLab_no j hjt (by omega))).symm, hb⟩
      ·go_wp2
       go_round
       case rel => exact ⟨k + 1, hlt, by go_num, all_snocS HX.out HA.out (isLab_yes j hj hjt h1 h2 HL.out)⟩
       case measure => simp [intOf]; omega
    ·go_wp2
     go_ret
     exact ⟨ret_bool (nameOk_good HM.out (by omega) (by omega) HA.out).symm, hb⟩
end Go.Proofs.YtefdokkadckbbaaGreatDoor
end
section
namespace Go.Proofs.YtefdokkadckbbaaGreatDoor
open Go.RowKit
set_option maxRecDepth 100000
def Good (w : World) : Prop := 0 < w.heap.size ∧ ∃ m : Int, w.cell? ⟨0, 0, none⟩ = some (.int .i64 m)
theorem Good.below {w w' : World} (h : Good w) (hb : Below w.heap.size w w') : Good w' := by
 obtain ⟨h1, m, hm⟩ := h
 exact ⟨Nat.lt_of_lt_of_le h1 hb.size, m, by rw [hb.cell (p := ⟨0, 0, none⟩) h1]; exact hm⟩
theorem Good.alloc {w : World} (h : Good w) (o : Obj) : Good (w.alloc o) := h.below ((Below.refl _ _).alloc (Nat.le_refl _) o)
set_option maxHeartbeats 400000 in
theorem Labels_any (s : ByteArray) (w : World) (hG : Good w) (hs : s.size ≤ 1048576) :
  Calls Tryz.prog 180 #[.string s] w fun e w' => ∃ v ss, e = .returned v ∧ ss.map tl = labs (tl s) ∧ StrSl w' v ss ∧ Below w.heap.size w w' := by
 cases h0 : s.toList.isEmpty with
 | true =>
  go_enter Tryz.func180, Tryz.ntmps180
  go_wp2
  go_ret
  exact ⟨_, [], rfl, by rw [empty_iff] at h0; have : tl s = [] := List.isEmpty_iff.1 h0; rw [this]; rfl, .inl ⟨rfl, rfl⟩, Below.refl _ _⟩
 | false =>
  obtain ⟨hG1, m, hm⟩ := hG
  have hl : labs (tl s) = cutAcc [] (tl s) := by rw [labs_ne h0, seg_self, List.drop_zero]
  have hsp := splitB_dot s
  have hln := Lib.splitB_all ⟨#[46]⟩ (by decide) 0 _ s rfl
  go_enter Tryz.func180, Tryz.ntmps180
  go_wp2_with (go_at_call 240; refine (Tryz.strings_Split s ⟨#[46]⟩ m _ (by omega) hm (by decide)).mono ?_; rintro e w1 ⟨rfl, hw⟩)
  go_ret
  subst hw
  refine ⟨_, Lib.splitB ⟨#[46]⟩ 0 (Lib.countB s ⟨#[46]⟩) s, rfl, by rw [hsp, hl], .inr ⟨w.heap.size, 0, Lib.countB s ⟨#[46]⟩ + 1, by rw [hln]; rfl, by simp, by omega, fun j x hj => ?_⟩, (Below.refl _ _).alloc (Nat.le_refl _) _⟩
  rw [Nat.zero_add]
  simp [hj]
set_option maxHeartbeats 800000 in
theorem Valid_any (s : ByteArray) (w : World) (hG : Good w) (hs : s.size ≤ 1048576) :
  Calls Tryz.prog 173 #[.string s] w fun e w' => e = .returned (.bool (nameOk (tl s))) ∧ Below w.heap.size w w' := by
 by_cases h34 : 34 < s.size
 ·have hno : nameOk (tl s) = false := by
   cases h : nameOk (tl s) with
   | false => rfl
   | true => have := nameOk_size _ h; rw [tl_length] at this; omega
  go_enter Tryz.func173, Tryz.ntmps173
  go_wp2
  go_ret
  exact ⟨ret_bool hno.symm, Below.refl _ _⟩
 go_enter Tryz.func173, Tryz.ntmps173
 go_wp2_with fail
 refine (Labels_any s _ hG hs).mono ?_
 rintro e w1 ⟨v, ss, rfl, hmap, hsl, hb⟩
 have hlen := pieces_len hmap
 rcases hsl with ⟨rfl, rfl⟩ | ⟨g, o, c, rfl, hg, hc, hcell⟩
 ·go_wp2
  refine wp_loop_rounds 1 ?_
  rw [rounds_succ]
  go_wp2
  go_ret
  exact ⟨ret_bool (nameOk_good (k := 0) hmap (by simp) (by simp) rfl).symm, hb⟩
 ·by_cases h5 : 5 < ss.length
  ·go_wp2
   go_ret
   exact ⟨ret_bool (nameOk_many hmap h5).symm, hb⟩
  ·have HM : Hid (ss.map tl = labs (tl s)) := hmap
   clear hmap
   have HC : Hid (∀ j x, ss[j]? = some x → w1.cell? ⟨g, o + j, none⟩ = some (.string x)) := hcell
   clear hcell
   go_wp2
   go_loop [16] (fun i => ∃ k : Nat, k ≤ ss.length ∧ i = .int .i64 k ∧ (ss.take k).all isLab = true) (fun i => ss.length - (intOf i).toNat)
   case atStart => exact ⟨0, Nat.zero_le _, rfl, rfl⟩
   case round =>
    obtain ⟨k, hk, rfl, ha⟩ := hrel
    have HA : Hid ((ss.take k).all isLab = true) := ha
    clear ha
    by_cases hlt : k < ss.length
    ·obtain ⟨x, hx⟩ := get_at hlt
     have hcx := HC.out k x hx
     have hxs := piece_size HM.out hx
     have HX : Hid (ss[k]? = some x) := hx
     clear hx
     cases hx1 : isLab x with
     | true =>
      go_wp2_with (go_at_call 237; refine (isLabel_any _ _ (by omega)).mono ?_; rintro e w' ⟨rfl, rfl⟩)
      go_round
      case rel => exact ⟨k + 1, hlt, by go_num, all_snocS HX.out HA.out hx1⟩
      case measure => simp [intOf]; omega
     | false =>
      go_wp2_with (go_at_call 237; refine (isLabel_any _ _ (by omega)).mono ?_; rintro e w' ⟨rfl, rfl⟩)
      go_ret
      exact ⟨ret_bool (nameOk_bad HM.out HX.out hx1).symm, hb⟩
    ·go_wp2
     go_ret
     exact ⟨ret_bool (nameOk_good HM.out (by omega) (by omega) HA.out).symm, hb⟩
end Go.Proofs.YtefdokkadckbbaaGreatDoor
end
section
namespace Go.Proofs.YtefdokkadckbbaaGreatDoor
open Go.RowKit
set_option maxRecDepth 100000
theorem recOk_name {r : Rec} (h : nameOk (tl r.name) = false) : recOk r = false := by unfold recOk; rw [h]; rfl
theorem recOk_ttl {r : Rec} (h : r.ttl < 1 ∨ 1000 < r.ttl) : recOk r = false := by unfold recOk; rw [decide_eq_false (by omega)]; simp
theorem recOk_says {r : Rec} (h : nameOk (tl r.name) = true) (h1 : ¬ r.ttl < 1) (h2 : ¬ 1000 < r.ttl) : recOk r = saysOk r := by unfold recOk; rw [h, decide_eq_true (by omega)]; rfl
theorem bcell {W w1 : World} (hb : Below W.heap.size W w1) : (∀ b o, b < W.heap.size → w1.cell? ⟨b, o, none⟩ = W.cell? ⟨b, o, none⟩) ∧ (∀ b o, b < W.heap.size → w1.frozen? ⟨b, o, none⟩ = W.frozen? ⟨b, o, none⟩) :=
 ⟨fun b _ h => hb.cell (p := ⟨b, _, none⟩) h, fun b _ h => hb.frozen (p := ⟨b, _, none⟩) h⟩
set_option maxHeartbeats 1000000 in
theorem says_any (r : Rec) (w : World) (hG : Good w) (ht : r.target.size ≤ 1048576) :
  Calls Tryz.prog 280 #[.agg #[.string r.name, .int .i64 r.ty, .int .i64 r.ttl, .int .i64 r.num, .string r.target]] w fun e w' => e = .returned (.bool (saysOk r)) ∧ Below w.heap.size w w' := by
 obtain ⟨nm, ty, ttl, num, tg⟩ := r
 have hG' := hG.alloc (.cells #[.string nm, .int .i64 ty, .int .i64 ttl, .int .i64 num, .string tg] 71)
 have hB := (Below.refl w.heap.size w).alloc (Nat.le_refl _) (.cells #[.string nm, .int .i64 ty, .int .i64 ttl, .int .i64 num, .string tg] 71)
 simp only at ht ⊢
 by_cases t1 : ty = 1
 ·subst t1
  by_cases n0 : 0 ≤ num ∧ num ≤ 255
  ·have hn : (decide (0 ≤ num) && decide (num ≤ 255)) = true := by simp [n0]
   go_enter Tryz.func280, Tryz.ntmps280
   go_wp2_with (go_at_call 142; refine (isAddress_any _ _).mono ?_; rw [hn]; rintro e w' ⟨rfl, rfl⟩)
   go_ret
   exact ⟨ret_bool (by simp [saysOk, n0, empty_iff]), hB⟩
  ·have hn : (decide (0 ≤ num) && decide (num ≤ 255)) = false := by rw [Bool.and_eq_false_iff]; simp; omega
   go_enter Tryz.func280, Tryz.ntmps280
   go_wp2_with (go_at_call 142; refine (isAddress_any _ _).mono ?_; rw [hn]; rintro e w' ⟨rfl, rfl⟩)
   go_ret
   exact ⟨ret_bool (by simp [saysOk, n0]), hB⟩
 by_cases t2 : ty = 2
 ·subst t2
  by_cases n0 : num = 0
  ·subst n0
   go_enter Tryz.func280, Tryz.ntmps280
   go_wp2_with (go_at_call 173; refine (Valid_any _ _ hG' ht).mono ?_; rintro e w' ⟨rfl, hb⟩)
   go_ret
   exact ⟨ret_bool (by simp [saysOk]), hB.trans (hb.mono (by simp))⟩
  ·go_enter Tryz.func280, Tryz.ntmps280
   go_wp2
   go_ret
   exact ⟨ret_bool (by simp [saysOk, n0]), hB⟩
 by_cases t3 : ty = 3
 ·subst t3
  by_cases n0 : num = 0
  ·subst n0
   go_enter Tryz.func280, Tryz.ntmps280
   go_wp2_with (go_at_call 173; refine (Valid_any _ _ hG' ht).mono ?_; rintro e w' ⟨rfl, hb⟩)
   go_ret
   exact ⟨ret_bool (by simp [saysOk]), hB.trans (hb.mono (by simp))⟩
  ·go_enter Tryz.func280, Tryz.ntmps280
   go_wp2
   go_ret
   exact ⟨ret_bool (by simp [saysOk, n0]), hB⟩
 by_cases t4 : ty = 4
 ·subst t4
  by_cases n0 : num = 0
  ·subst n0
   go_enter Tryz.func280, Tryz.ntmps280
   go_wp2
   go_ret
   exact ⟨ret_bool (by simp [saysOk, empty_iff]), hB⟩
  ·go_enter Tryz.func280, Tryz.ntmps280
   go_wp2
   go_ret
   exact ⟨ret_bool (by simp [saysOk, n0]), hB⟩
 go_enter Tryz.func280, Tryz.ntmps280
 go_wp2
 go_ret
 exact ⟨ret_bool (by simp [saysOk, t1, t2, t3, t4]), hB⟩
set_option maxHeartbeats 1000000 in
theorem isRecord_any (r : Rec) (w : World) (hG : Good w) (hn : r.name.size ≤ 1048576) (ht : r.target.size ≤ 1048576) :
  Calls Tryz.prog 238 #[.agg #[.string r.name, .int .i64 r.ty, .int .i64 r.ttl, .int .i64 r.num, .string r.target]] w fun e w' => e = .returned (.bool (recOk r)) ∧ Below w.heap.size w w' := by
 have hG' := hG.alloc (.cells #[.string r.name, .int .i64 r.ty, .int .i64 r.ttl, .int .i64 r.num, .string r.target] 71)
 have hB := (Below.refl w.heap.size w).alloc (Nat.le_refl _) (.cells #[.string r.name, .int .i64 r.ty, .int .i64 r.ttl, .int .i64 r.num, .string r.target] 71)
 cases hnm : nameOk (tl r.name) with
 | false =>
  go_enter Tryz.func238, Tryz.ntmps238
  go_wp2_with (go_at_call 173; refine (Valid_any _ _ hG' hn).mono ?_; rw [hnm]; rintro e w' ⟨rfl, hb⟩)
  go_ret
  exact ⟨ret_bool (recOk_name hnm).symm, hB.trans (hb.mono (by simp))⟩
 | true =>
  by_cases httl : 1 ≤ r.ttl ∧ r.ttl ≤ 1000
  ·have hd : (decide (1 ≤ r.ttl) && decide (r.ttl ≤ 1000)) = true := by simp [httl]
   go_enter Tryz.func238, Tryz.ntmps238
   go_wp2_with fail
   refine (Valid_any _ _ hG' hn).mono ?_
   rw [hnm]
   rintro e w1 ⟨rfl, hb⟩
   have hG1 := hG'.below hb
   have hB1 := hB.trans (hb.mono (by simp))
   obtain ⟨hc, hf⟩ := bcell hb
   go_wp2_with fail
   refine (between_any _ _ _ _).mono ?_
   rw [hd]
   rintro e w' ⟨rfl, rfl⟩
   go_wp2_with fail
   refine (says_any r _ hG1 ht).mono ?_
   rintro e w2 ⟨rfl, hb2⟩
   go_wp2
   go_ret
   exact ⟨ret_bool (recOk_says hnm (by omega) (by omega)).symm, hB1.trans (hb2.mono hB1.size)⟩
  ·have hd : (decide (1 ≤ r.ttl) && decide (r.ttl ≤ 1000)) = false := by rw [Bool.and_eq_false_iff]; simp; omega
   go_enter Tryz.func238, Tryz.ntmps238
   go_wp2_with fail
   refine (Valid_any _ _ hG' hn).mono ?_
   rw [hnm]
   rintro e w1 ⟨rfl, hb⟩
   have hB1 := hB.trans (hb.mono (by simp))
   obtain ⟨hc, hf⟩ := bcell hb
   go_wp2_with fail
   refine (between_any _ _ _ _).mono ?_
   rw [hd]
   rintro e w' ⟨rfl, rfl⟩
   go_wp2
   go_ret
   exact ⟨ret_bool (recOk_ttl (by omega)).symm, hB1⟩
end Go.Proofs.YtefdokkadckbbaaGreatDoor
end
section
namespace Go.Proofs.YtefdokkadckbbaaGreatDoor
open Go.RowKit
set_option maxRecDepth 100000
theorem says_num {nm tg : ByteArray} {ttl num : Int} (h : ¬ (0 ≤ num ∧ num ≤ 255)) : saysOk ⟨nm, 1, ttl, num, tg⟩ = false := by
 unfold saysOk; rw [if_pos rfl]; rw [decide_eq_false h]; rfl
set_option maxHeartbeats 1000000 in
theorem Well_any (r : Rec) (w : World) (hn : r.name.size ≤ 1048576) (ht : r.target.size ≤ 1048576) :
  Calls Tryz.prog 230 #[.agg #[.string r.name, .int .i64 r.ty, .int .i64 r.ttl, .int .i64 r.num, .string r.target]] w fun e w' => e = .returned (.bool (recOk r)) ∧ Below w.heap.size w w' := by
 have hB := (Below.refl w.heap.size w).alloc (Nat.le_refl _) (.cells #[.string r.name, .int .i64 r.ty, .int .i64 r.ttl, .int .i64 r.num, .string r.target] 71)
 cases hnm : nameOk (tl r.name) with
 | false =>
  go_enter Tryz.func230, Tryz.ntmps230
  go_wp2_with (go_at_call 156; refine (Name_any _ _ hn).mono ?_; rw [hnm]; rintro e w' ⟨rfl, hb⟩)
  go_ret
  exact ⟨ret_bool (recOk_name hnm).symm, hB.trans (hb.mono (by simp))⟩
 | true =>
  by_cases httl : 1 ≤ r.ttl ∧ r.ttl ≤ 1000
  ·have hsays := recOk_says hnm (by omega : ¬ r.ttl < 1) (by omega : ¬ 1000 < r.ttl)
   obtain ⟨nm, ty, ttl, num, tg⟩ := r
   simp only at hn ht hnm httl hB ⊢
   have HS : Hid (recOk ⟨nm, ty, ttl, num, tg⟩ = saysOk ⟨nm, ty, ttl, num, tg⟩) := hsays
   clear hsays
   go_enter Tryz.func230, Tryz.ntmps230
   go_wp2_with fail
   refine (Name_any _ _ hn).mono ?_
   rw [hnm]
   rintro e w1 ⟨rfl, hb⟩
   have hB1 := hB.trans (hb.mono (by simp))
   obtain ⟨hc, hf⟩ := bcell hb
   have hz : w.heap.size < w1.heap.size := by have := hb.size; simp at this; omega
   go_wp2_with fail
   refine (Name_any _ _ ht).mono ?_
   rintro e w2 ⟨rfl, hb2⟩
   have hB2 := hB1.trans (hb2.mono hB1.size)
   obtain ⟨hc2, hf2⟩ := bcell hb2
   by_cases t1 : ty = 1
   ·subst t1
    by_cases n0 : 0 ≤ num
    ·by_cases n1 : num ≤ 255
     ·go_wp2
      go_ret
      exact ⟨ret_bool (by rw [HS.out]; simp [saysOk, n0, n1, empty_iff]), hB2⟩
     ·go_wp2
      go_ret
      exact ⟨ret_bool (by rw [HS.out, says_num (by omega)]), hB2⟩
    ·go_wp2
     go_ret
     exact ⟨ret_bool (by rw [HS.out, says_num (by omega)]), hB2⟩
   by_cases t2 : ty = 2
   ·subst t2
    by_cases n0 : num = 0
    ·subst n0
     go_wp2
     go_ret
     exact ⟨ret_bool (by rw [HS.out]; simp [saysOk]), hB2⟩
    ·go_wp2
     go_ret
     exact ⟨ret_bool (by rw [HS.out]; simp [saysOk, n0]), hB2⟩
   by_cases t3 : ty = 3
   ·subst t3
    by_cases n0 : num = 0
    ·subst n0
     go_wp2
     go_ret
     exact ⟨ret_bool (by rw [HS.out]; simp [saysOk]), hB2⟩
    ·go_wp2
     go_ret
     exact ⟨ret_bool (by rw [HS.out]; simp [saysOk, n0]), hB2⟩
   by_cases t4 : ty = 4
   ·subst t4
    by_cases n0 : num = 0
    ·subst n0
     go_wp2
     go_ret
     exact ⟨ret_bool (by rw [HS.out]; simp [saysOk, empty_iff]), hB2⟩
    ·go_wp2
     go_ret
     exact ⟨ret_bool (by rw [HS.out]; simp [saysOk, n0]), hB2⟩
   go_wp2
   go_ret
   exact ⟨ret_bool (by rw [HS.out]; simp [saysOk, t1, t2, t3, t4]), hB2⟩
  ·by_cases h1 : r.ttl < 1
   ·go_enter Tryz.func230, Tryz.ntmps230
    go_wp2_with fail
    refine (Name_any _ _ hn).mono ?_
    rw [hnm]
    rintro e w1 ⟨rfl, hb⟩
    have hB1 := hB.trans (hb.mono (by simp))
    obtain ⟨hc, hf⟩ := bcell hb
    go_wp2
    go_ret
    exact ⟨ret_bool (recOk_ttl (by omega)).symm, hB1⟩
   ·have h2 : 1000 < r.ttl := by omega
    go_enter Tryz.func230, Tryz.ntmps230
    go_wp2_with fail
    refine (Name_any _ _ hn).mono ?_
    rw [hnm]
    rintro e w1 ⟨rfl, hb⟩
    have hB1 := hB.trans (hb.mono (by simp))
    obtain ⟨hc, hf⟩ := bcell hb
    go_wp2
    go_ret
    exact ⟨ret_bool (recOk_ttl (by omega)).symm, hB1⟩
end Go.Proofs.YtefdokkadckbbaaGreatDoor
end
section
namespace Go.Proofs.YtefdokkadckbbaaGreatDoor
open Go.RowKit
set_option maxRecDepth 100000
def RecAt (w : World) (g o : Nat) (r : Rec) : Prop :=
 w.cell? ⟨g, o, none⟩ = some (.string r.name) ∧ w.cell? ⟨g, o + 1, none⟩ = some (.int .i64 r.ty) ∧ w.cell? ⟨g, o + 2, none⟩ = some (.int .i64 r.ttl) ∧ w.cell? ⟨g, o + 3, none⟩ = some (.int .i64 r.num) ∧ w.cell? ⟨g, o + 4, none⟩ = some (.string r.target)
def RecSl (w : World) (v : Value) (rs : List Rec) : Prop :=
 ∃ a c, v = .slice a rs.length c ∧ (rs = [] ∨ ∃ g o, a = some ⟨g, o, none⟩ ∧ g < w.heap.size ∧ rs.length ≤ c ∧ ∀ j r, rs[j]? = some r → RecAt w g (o + j * 5) r)
theorem RecAt.below {w w' : World} {B g o : Nat} {r : Rec} (h : RecAt w g o r) (hb : Below B w w') (hg : g < B) : RecAt w' g o r := by
 unfold RecAt at *
 simp only [hb.cell (p := ⟨g, _, none⟩) hg]
 exact h
theorem RecSl.below {w w' : World} {v : Value} {rs : List Rec} (h : RecSl w v rs) (hb : Below w.heap.size w w') : RecSl w' v rs := by
 obtain ⟨a, c, hv, h | ⟨g, o, ha, hg, hc, hr⟩⟩ := h
 ·exact ⟨a, c, hv, .inl h⟩
 ·exact ⟨a, c, hv, .inr ⟨g, o, ha, Nat.lt_of_lt_of_le hg hb.size, hc, fun j r hj => (hr j r hj).below hb hg⟩⟩
def Small (rs : List Rec) : Prop := ∀ (j : Nat) (r : Rec), rs[j]? = some r → r.name.size ≤ 1048576 ∧ r.target.size ≤ 1048576
theorem rec_at {rs : List Rec} {k : Nat} (h : k < rs.length) : ∃ x, rs[k]? = some x := ⟨rs[k], List.getElem?_eq_getElem h⟩
theorem listOk_many {rs : List Rec} (h : 10 < rs.length) : listOk rs = false := by unfold listOk; rw [decide_eq_false (by omega)]; rfl
theorem listOk_bad {rs : List Rec} {k : Nat} {x : Rec} (hx : rs[k]? = some x) (hl : recOk x = false) : listOk rs = false := by
 unfold listOk
 have : rs.all recOk = false := by rw [List.all_eq_false]; exact ⟨x, List.mem_of_getElem? hx, by simp [hl]⟩
 rw [this]; simp
theorem listOk_good {rs : List Rec} (h : rs.length ≤ 10) {k : Nat} (hk : rs.length ≤ k) (ha : (rs.take k).all recOk = true) : listOk rs = true := by
 unfold listOk
 rw [List.take_of_length_le hk] at ha; rw [ha, decide_eq_true h]; rfl
theorem all_snocR {rs : List Rec} {k : Nat} {x : Rec} (hx : rs[k]? = some x) (ha : (rs.take k).all recOk = true) (hl : recOk x = true) : (rs.take (k + 1)).all recOk = true := by
 rw [List.take_add_one, hx, List.all_append, ha]; simp [hl]
set_option maxHeartbeats 1000000 in
theorem isList_any (v : Value) (rs : List Rec) (w : World) (hG : Good w) (hS : Small rs) (hv : RecSl w v rs) :
  Calls Tryz.prog 174 #[v] w fun e w' => e = .returned (.bool (listOk rs)) ∧ Below w.heap.size w w' := by
 obtain ⟨a, c, rfl, rfl | ⟨g, o, rfl, hg, hc, hr⟩⟩ := hv
 ·go_enter Tryz.func174, Tryz.ntmps174
  go_wp2
  refine wp_loop_rounds 1 ?_
  rw [rounds_succ]
  go_wp2
  go_ret
  exact ⟨ret_bool rfl, Below.refl _ _⟩
 by_cases h10 : 10 < rs.length
 ·go_enter Tryz.func174, Tryz.ntmps174
  go_wp2
  go_ret
  exact ⟨ret_bool (listOk_many h10).symm, Below.refl _ _⟩
 have HR : Hid (∀ j r, rs[j]? = some r → RecAt w g (o + j * 5) r) := hr
 have HS : Hid (Small rs) := hS
 have HG : Hid (Good w) := hG
 clear hr hS hG
 go_enter Tryz.func174, Tryz.ntmps174
 go_wp2
 go_loopw [10] (fun i wr => ∃ k : Nat, k ≤ rs.length ∧ i = .int .i64 k ∧ (rs.take k).all recOk = true ∧ Below w.heap.size w wr) (fun i _ => rs.length - (intOf i).toNat)
 case atStart => exact ⟨0, Nat.zero_le _, rfl, rfl, Below.refl _ _⟩
 case round =>
  obtain ⟨k, hk, rfl, ha, hb⟩ := hrel
  have HA : Hid ((rs.take k).all recOk = true) := ha
  clear ha
  by_cases hlt : k < rs.length
  ·obtain ⟨x, hx⟩ := rec_at hlt
   obtain ⟨c0, c1, c2, c3, c4⟩ := (HR.out k x hx).below hb hg
   obtain ⟨z0, z4⟩ := HS.out k x hx
   have HX : Hid (rs[k]? = some x) := hx
   clear hx
   have hG1 := HG.out.below hb
   have hB1 := hb.alloc hb.size (.cells #[.string x.name, .int .i64 x.ty, .int .i64 x.ttl, .int .i64 x.num, .string x.target] 71)
   cases hok : recOk x with
   | true =>
    go_wp2_with (go_at_call 238; refine (isRecord_any x _ (hG1.alloc _) z0 z4).mono ?_; rw [hok]; rintro e w2 ⟨rfl, hb2⟩)
    go_roundw
    case rel => exact ⟨k + 1, hlt, by go_num, all_snocR HX.out HA.out hok, hB1.trans (hb2.mono hB1.size)⟩
    case measure => simp [intOf]; omega
   | false =>
    go_wp2_with (go_at_call 238; refine (isRecord_any x _ (hG1.alloc _) z0 z4).mono ?_; rw [hok]; rintro e w2 ⟨rfl, hb2⟩)
    go_ret
    exact ⟨ret_bool (listOk_bad HX.out hok).symm, hB1.trans (hb2.mono hB1.size)⟩
  ·go_wp2
   go_ret
   exact ⟨ret_bool (listOk_good (by omega) (by omega) HA.out).symm, hb⟩
end Go.Proofs.YtefdokkadckbbaaGreatDoor
end
section
namespace Go.Proofs.YtefdokkadckbbaaGreatDoor
open Go.RowKit
set_option maxRecDepth 100000
def mk (l : List UInt8) : ByteArray := ⟨l.toArray⟩
theorem tl_mk' (l : List UInt8) : tl (mk l) = l := tl_mk l
theorem mk_size (l : List UInt8) : (mk l).size = l.length := by rw [← tl_length, tl_mk']
theorem b1_mk (n : Int) : b1 n = mk [byte n] := rfl
theorem b2_mk (n : Int) : b2 n = mk [byte n, byte (n / 256)] := rfl
theorem ret_str {a b : ByteArray} (h : a = b) : Ending.returned (.string a) = .returned (.string b) := by rw [h]
theorem join_flat (xs : List (List UInt8)) : Lib.join xs [] = xs.flatten := by
 cases xs with
 | nil => rfl
 | cons x r =>
  rw [Lib.join_cons, List.flatten_cons]
  unfold Lib.joinTail
  simp
def flat (xs : List ByteArray) : List UInt8 := (xs.map tl).flatten
theorem flat_append (xs ys : List ByteArray) : flat (xs ++ ys) = flat xs ++ flat ys := by simp [flat]
set_option maxHeartbeats 400000 in
theorem together_any (v : Value) (xs : List ByteArray) (w : World) (hv : StrSl w v xs) (hN : xs.length ≤ 1048576) (hlen : (flat xs).length ≤ 1048576) :
  Calls Tryz.prog 175 #[v] w fun e w' => e = .returned (.string (mk (flat xs))) ∧ Below w.heap.size w w' := by
 rcases hv with ⟨rfl, rfl⟩ | ⟨g, o, c, rfl, hg, hc, hcell⟩
 ·go_enter Tryz.func175, Tryz.ntmps175
  go_wp2_with (go_at_call 239; refine (Tryz.strings_Join_none none 0 ⟨#[]⟩ _).mono ?_; rintro e w' ⟨rfl, rfl⟩)
  go_ret
  exact ⟨rfl, Below.refl _ _⟩
 ·have hj : Lib.join (xs.map (·.data.toList)) (ByteArray.mk #[]).data.toList = flat xs := join_flat _
  have HC : Hid (∀ j x, xs[j]? = some x → w.cell? ⟨g, o + j, none⟩ = some (.string x)) := hcell
  clear hcell
  go_enter Tryz.func175, Tryz.ntmps175
  go_wp2_with (go_at_call 239; refine (Tryz.strings_Join g o c xs ⟨#[]⟩ _ HC.out hg (by omega) hc (by rw [hj]; omega)).mono ?_; rw [hj]; rintro e w' ⟨rfl, hb⟩)
  go_ret
  exact ⟨rfl, hb⟩
theorem _root_.Go.World.ownsRow.below {w w' : World} {base : Nat} {e : TypeId} {size : Nat} {v : Value} {n : Nat} {xs : List Value} (h : w.ownsRow base e size v n xs) (hb : Below w.heap.size w w') : w'.ownsRow base e size v n xs := by
 obtain ⟨hl, h | ⟨g, cap, cur, hv, hg, hh, r⟩⟩ := h
 ·exact ⟨hl, .inl h⟩
 ·exact ⟨hl, .inr ⟨g, cap, cur, hv, hg, (by rw [hb.block g (Array.getElem?_eq_some_iff.1 hh).1]; exact hh), r⟩⟩
def labsW (L : List (List UInt8)) : List UInt8 := (L.map labW).flatten ++ [0]
theorem nameW_eq (s : List UInt8) : nameW s = labsW (labs s) := rfl
def pp : List ByteArray → List ByteArray
 | [] => []
 | x :: r => b1 x.size :: x :: pp r
theorem pp_append (xs ys : List ByteArray) : pp (xs ++ ys) = pp xs ++ pp ys := by
 induction xs with
 | nil => rfl
 | cons x r ih => simp [pp, ih]
theorem pp_length (xs : List ByteArray) : (pp xs).length = 2 * xs.length := by
 induction xs with
 | nil => rfl
 | cons x r ih => simp [pp, ih]; omega
theorem pp_next {xs : List ByteArray} {k : Nat} {x : ByteArray} (h : xs[k]? = some x) : pp (xs.take (k + 1)) = pp (xs.take k) ++ [b1 x.size, x] := by
 rw [List.take_add_one, h, pp_append]; rfl
theorem flat_pp (xs : List ByteArray) : flat (pp xs) = ((xs.map tl).map labW).flatten := by
 induction xs with
 | nil => rfl
 | cons x r ih =>
  have : flat (pp (x :: r)) = tl (b1 x.size) ++ (tl x ++ flat (pp r)) := by simp [flat, pp]
  rw [this, ih, b1_mk, tl_mk']
  simp [labW, byte, tl_length]
theorem pp_step {w wr w1 w2 : World} {ss : List ByteArray} {k : Nat} {x : ByteArray} {v v' : Value} {o : Obj} (hx : ss[k]? = some x)
  (hown : wr.ownsRow w.heap.size 9 1 v (pp (ss.take k)).length ((pp (ss.take k)).map Value.string)) (hb : Below w.heap.size w wr) (hb1 : Below wr.heap.size wr w1)
  (hown' : w2.ownsRow w.heap.size 9 1 v' ((pp (ss.take k)).length + 2) ((pp (ss.take k)).map Value.string ++ [.string (b1 x.size), .string x]))
  (hg : (w1.alloc o).grownBy w2 v.ownBlock) :
  w2.ownsRow w.heap.size 9 1 v' (pp (ss.take (k + 1))).length ((pp (ss.take (k + 1))).map Value.string) ∧ Below w.heap.size w w2 := by
 have hb2 : Below w.heap.size w w1 := hb.trans (hb1.mono hb.size)
 refine ⟨?_, (hb2.alloc hb2.size o).grown hg (by have := hb2.size; simp; omega) (own_ge hown)⟩
 rw [pp_next hx]
 simpa using hown'
theorem StrSl.any {w : World} {v : Value} {xs : List ByteArray} (h : StrSl w v xs) : ∃ a c, v = .slice a xs.length c ∧ ∀ (j : Nat) (x : ByteArray), xs[j]? = some x → ∃ g o, a = some ⟨g, o, none⟩ ∧ g < w.heap.size ∧ w.cell? ⟨g, o + j, none⟩ = some (.string x) := by
 rcases h with ⟨rfl, rfl⟩ | ⟨g, o, c, rfl, hg, hc, hcell⟩
 ·exact ⟨none, 0, rfl, fun j x h => by simp at h⟩
 ·exact ⟨_, c, rfl, fun j x h => ⟨g, o, rfl, hg, hcell j x h⟩⟩
theorem pp_last {w wr w1 w2 : World} {ss : List ByteArray} {v v' : Value} {o : Obj}
  (hown : wr.ownsRow w.heap.size 9 1 v (pp ss).length ((pp ss).map Value.string)) (hb : Below w.heap.size w wr) (hb1 : Below wr.heap.size wr w1)
  (hown' : w2.ownsRow w.heap.size 9 1 v' ((pp ss).length + 1) ((pp ss).map Value.string ++ [.string (b1 0)]))
  (hg : (w1.alloc o).grownBy w2 v.ownBlock) :
  StrSl w2 v' (pp ss ++ [b1 0]) ∧ Below w.heap.size w w2 := by
 have hb2 : Below w.heap.size w w1 := hb.trans (hb1.mono hb.size)
 refine ⟨StrSl_of_owns (base := w.heap.size) (by simpa using hown'), (hb2.alloc hb2.size o).grown hg (by have := hb2.size; simp; omega) (own_ge hown)⟩
theorem flat_pp_le (ss : List ByteArray) (h6 : ∀ (j : Nat) (x : ByteArray), ss[j]? = some x → x.size ≤ 6) : (flat (pp ss)).length ≤ 7 * ss.length := by
 induction ss with
 | nil => simp [pp, flat]
 | cons x r ih =>
  have h1 := h6 0 x rfl
  have h2 := ih (fun j y hy => h6 (j + 1) y (by simpa using hy))
  have : flat (pp (x :: r)) = tl (b1 x.size) ++ (tl x ++ flat (pp r)) := by simp [flat, pp]
  rw [this, b1_mk, tl_mk']
  simp [tl_length]; omega
set_option maxHeartbeats 1000000 in
theorem nameBytes_any (v : Value) (ss : List ByteArray) (w : World) (hv : StrSl w v ss) (h5 : ss.length ≤ 5) (h6 : ∀ (j : Nat) (x : ByteArray), ss[j]? = some x → x.size ≤ 6) :
  Calls Tryz.prog 179 #[v] w fun e w' => e = .returned (.string (mk (labsW (ss.map tl)))) ∧ Below w.heap.size w w' := by
 obtain ⟨i0, hi, hz0, hz1, hz2⟩ := info_parts info9
 have hflat : flat (pp ss ++ [b1 0]) = labsW (ss.map tl) := by rw [flat_append, flat_pp]; rfl
 obtain ⟨a, c, rfl, hcell⟩ := hv.any
 ·have HC : Hid (∀ (j : Nat) (x : ByteArray), ss[j]? = some x → ∃ g o, a = some ⟨g, o, none⟩ ∧ g < w.heap.size ∧ w.cell? ⟨g, o + j, none⟩ = some (.string x)) := hcell
  have H6 : Hid (∀ (j : Nat) (x : ByteArray), ss[j]? = some x → x.size ≤ 6) := h6
  have HF : Hid (flat (pp ss ++ [b1 0]) = labsW (ss.map tl)) := hflat
  clear hcell h6 hflat
  go_enter Tryz.func179, Tryz.ntmps179
  go_wp2_with (at_make; refine wpList_make_own _ rfl _ _ 42 rfl w.heap.size 9 i0 (.string ByteArray.empty) 1 u106 hi hz0 hz1 _ _ _ (2 * ss.length + 1) rfl rfl (by omega) ?b2 ?b3 (Nat.le_refl _) ?_)
  case b2 => rw [hz2]; omega
  case b3 => unfold maxLen; omega
  intro w0 hown0 hgrow0
  have hB0 : Below w.heap.size w w0 := (Below.refl _ _).grown hgrow0 (Nat.le_refl _) (fun k h => by cases h)
  clear hgrow0
  go_wp2
  go_loopw [3, 13] (fun v i wr => ∃ k : Nat, k ≤ ss.length ∧ i = .int .i64 k ∧ wr.ownsRow w.heap.size 9 1 v (pp (ss.take k)).length ((pp (ss.take k)).map Value.string) ∧ Below w.heap.size w wr) (fun _ i _ => ss.length - (intOf i).toNat)
  case atStart => exact ⟨0, Nat.zero_le _, rfl, hown0, hB0⟩
  case round =>
   obtain ⟨k, hk, rfl, hown, hb⟩ := hrel
   by_cases hlt : k < ss.length
   ·obtain ⟨x, hx⟩ := get_at hlt
    obtain ⟨g, o, rfl, hg, hcx0⟩ := HC.out k x hx
    have hcx : wr.cell? ⟨g, o + k, none⟩ = some (.string x) := (hb.cell (p := ⟨g, o + k, none⟩) hg).trans hcx0
    clear hcx0
    have hx6 := H6.out k x hx
    have HX : Hid (ss[k]? = some x) := hx
    clear hx
    have hpl : (pp (ss.take k)).length ≤ 10 := by rw [pp_length, List.length_take]; omega
    go_wp2_with fail
    refine (oneByte_any _ _).mono ?_
    rintro e w1 ⟨rfl, hb1⟩
    go_wp2_with (first
      | (at_builtin; refine wpList_append_own _ rfl _ _ 42 rfl w.heap.size 9 i0 (.string ByteArray.empty) 1 16 u106 hi hz0 hz1 hz2 rfl (by decide) _ _ _ rfl ((hown.below hb1).alloc _) ⟨w1.heap.size, 0, none⟩ 2 2 [.string (b1 x.size), .string x] rfl rfl ?c1 ?c2 ?c3 ?c4 ?c5 ?_))
    case c1 =>
     intro j u hj
     match j, hj with
     | 0, hj => simp at hj; subst hj; simp [Addr.add]
     | 1, hj => simp at hj; subst hj; simp [Addr.add]
    case c2 => intro u hu; simp at hu; rcases hu with rfl | rfl <;> rfl
    case c3 => unfold maxLen; omega
    case c4 => omega
    case c5 => have := hb.size; have := hb1.size; simp; omega
    intro v' w2 hown' hgrow _
    have R := pp_step HX.out hown hb hb1 hown' hgrow
    clear hown' hgrow hown
    go_wp2
    go_roundw
    case rel => exact ⟨k + 1, hlt, by go_num, R.1, R.2⟩
    case measure => simp [intOf]; omega
   ·have hk' : ss.take k = ss := List.take_of_length_le (by omega)
    rw [hk'] at hown
    clear hk'
    have hpl : (pp ss).length ≤ 10 := by rw [pp_length]; omega
    go_wp2_with fail
    refine (oneByte_any _ _).mono ?_
    rintro e w1 ⟨rfl, hb1⟩
    go_wp2_with (first
      | (at_builtin; refine wpList_append_own _ rfl _ _ 42 rfl w.heap.size 9 i0 (.string ByteArray.empty) 1 16 u106 hi hz0 hz1 hz2 rfl (by decide) _ _ _ rfl ((hown.below hb1).alloc _) ⟨w1.heap.size, 0, none⟩ 1 1 [.string (b1 0)] rfl rfl ?d1 ?d2 ?d3 ?d4 ?d5 ?_))
    case d1 =>
     intro j u hj
     match j, hj with
     | 0, hj => simp at hj; subst hj; simp [Addr.add]
    case d2 => intro u hu; simp at hu; subst hu; rfl
    case d3 => unfold maxLen; omega
    case d4 => omega
    case d5 => have := hb.size; have := hb1.size; simp; omega
    intro v' w2 hown' hgrow _
    have R := pp_last hown hb hb1 hown' hgrow
    have hfl := flat_pp_le ss H6.out
    clear hown' hgrow hown
    go_wp2_with fail
    refine (together_any v' (pp ss ++ [b1 0]) _ R.1 (by simp; omega) (by rw [flat_append]; simp [flat, b1_mk, tl_mk'] at hfl ⊢; omega)).mono ?_
    rintro e w3 ⟨rfl, hb3⟩
    go_wp2
    go_ret
    exact ⟨ret_str (congrArg mk HF.out), R.2.trans (hb3.mono R.2.size)⟩
end Go.Proofs.YtefdokkadckbbaaGreatDoor
end
section
namespace Go.Proofs.YtefdokkadckbbaaGreatDoor
open Go.RowKit
set_option maxRecDepth 100000
theorem nameOk_parts {s : ByteArray} {ss : List ByteArray} (h : ss.map tl = labs (tl s)) (hn : nameOk (tl s) = true) : ss.length ≤ 5 ∧ ∀ (j : Nat) (x : ByteArray), ss[j]? = some x → x.size ≤ 6 := by
 rw [nameOk_of h] at hn
 simp only [Bool.and_eq_true, decide_eq_true_eq] at hn
 refine ⟨hn.1, fun j x hx => ?_⟩
 have := List.all_eq_true.1 hn.2 x (List.mem_of_getElem? hx)
 unfold isLab labOk at this
 rw [Bool.and_eq_true] at this
 have h2 := of_decide_eq_true this.1
 rw [tl_length] at h2
 omega
theorem StrSl.below {w w' : World} {v : Value} {xs : List ByteArray} (h : StrSl w v xs) (hb : Below w.heap.size w w') : StrSl w' v xs := by
 rcases h with h | ⟨g, o, c, hv, hg, hc, hcell⟩
 ·exact .inl h
 ·exact .inr ⟨g, o, c, hv, Nat.lt_of_lt_of_le hg hb.size, hc, fun j x hx => (hb.cell (p := ⟨g, o + j, none⟩) hg).trans (hcell j x hx)⟩
theorem nameOk_small {s : ByteArray} (h : nameOk (tl s) = true) : s.size ≤ 1048576 := by
 have := nameOk_size _ h; rw [tl_length] at this; omega
set_option maxHeartbeats 1000000 in
theorem said_any (r : Rec) (w : World) (hG : Good w) (hs : saysOk r = true) :
  Calls Tryz.prog 285 #[.agg #[.string r.name, .int .i64 r.ty, .int .i64 r.ttl, .int .i64 r.num, .string r.target]] w fun e w' => e = .returned (.string (mk (saidW r))) ∧ Below w.heap.size w w' := by
 obtain ⟨nm, ty, ttl, num, tg⟩ := r
 have hG' := hG.alloc (.cells #[.string nm, .int .i64 ty, .int .i64 ttl, .int .i64 num, .string tg] 71)
 have hB := (Below.refl w.heap.size w).alloc (Nat.le_refl _) (.cells #[.string nm, .int .i64 ty, .int .i64 ttl, .int .i64 num, .string tg] 71)
 by_cases t1 : ty = 1
 ·subst t1
  have e1 : saidW ⟨nm, 1, ttl, num, tg⟩ = [byte num] := rfl
  go_enter Tryz.func285, Tryz.ntmps285
  go_wp2_with (go_at_call 177; refine (oneByte_any _ _).mono ?_; rintro e w1 ⟨rfl, hb⟩)
  go_ret
  exact ⟨ret_str rfl, hB.trans (hb.mono (by simp))⟩
 by_cases t2 : ty = 2 ∨ ty = 3
 ·have e1 : saidW ⟨nm, ty, ttl, num, tg⟩ = nameW (tl tg) := by unfold saidW; rw [if_neg t1, if_pos t2]
  have hok : nameOk (tl tg) = true := by unfold saysOk at hs; rw [if_neg t1, if_pos t2, Bool.and_eq_true] at hs; exact hs.2
  rw [e1]
  clear e1 hs
  rcases t2 with rfl | rfl
  all_goals
   go_enter Tryz.func285, Tryz.ntmps285
   go_wp2_with fail
   refine (Labels_any _ _ hG' (nameOk_small hok)).mono ?_
   rintro e w1 ⟨v, ss, rfl, hmap, hsl, hb⟩
   have hp := nameOk_parts hmap hok
   have hB1 := hB.trans (hb.mono (by simp))
   have HM : Hid (ss.map tl = labs (tl tg)) := hmap
   clear hmap
   have H6 : Hid (∀ (j : Nat) (x : ByteArray), ss[j]? = some x → x.size ≤ 6) := hp.2
   have h5 := hp.1
   clear hp
   go_wp2_with fail
   refine (nameBytes_any v ss _ hsl h5 H6.out).mono ?_
   rintro e w2 ⟨rfl, hb2⟩
   go_wp2
   go_ret
   exact ⟨ret_str (by rw [nameW_eq, HM.out]), hB1.trans (hb2.mono hB1.size)⟩
 ·have e1 : saidW ⟨nm, ty, ttl, num, tg⟩ = [] := by unfold saidW; rw [if_neg t1, if_neg t2]
  rw [e1]
  have t2' : ¬ ty = 2 := fun h => t2 (.inl h)
  have t3' : ¬ ty = 3 := fun h => t2 (.inr h)
  clear t2
  go_enter Tryz.func285, Tryz.ntmps285
  go_wp2
  go_ret
  exact ⟨ret_str rfl, hB⟩
theorem StrSl_lit (w : World) (xs : List ByteArray) : StrSl (w.alloc (.cells (xs.map Value.string).toArray 9)) (.slice (some ⟨w.heap.size, 0, none⟩) xs.length xs.length) xs := by
 refine .inr ⟨w.heap.size, 0, xs.length, rfl, by simp, Nat.le_refl _, fun j x hj => ?_⟩
 rw [Nat.zero_add]
 simp [hj]
theorem keepR {g : Nat} {W0 wA wB : World} {v0 v1 v2 v3 v4 : Value} (hg : g < W0.heap.size)
  (h : wA.cell? ⟨g, 0, none⟩ = some v0 ∧ wA.cell? ⟨g, 1, none⟩ = some v1 ∧ wA.cell? ⟨g, 2, none⟩ = some v2 ∧ wA.cell? ⟨g, 3, none⟩ = some v3 ∧ wA.cell? ⟨g, 4, none⟩ = some v4 ∧ Below W0.heap.size W0 wA) (hb : Below wA.heap.size wA wB) :
  wB.cell? ⟨g, 0, none⟩ = some v0 ∧ wB.cell? ⟨g, 1, none⟩ = some v1 ∧ wB.cell? ⟨g, 2, none⟩ = some v2 ∧ wB.cell? ⟨g, 3, none⟩ = some v3 ∧ wB.cell? ⟨g, 4, none⟩ = some v4 ∧ Below W0.heap.size W0 wB := by
 obtain ⟨h0, h1, h2, h3, h4, h5⟩ := h
 have hlt : g < wA.heap.size := Nat.lt_of_lt_of_le hg h5.size
 simp only [hb.cell (p := ⟨g, _, none⟩) hlt]
 exact ⟨h0, h1, h2, h3, h4, h5.trans (hb.mono h5.size)⟩
theorem keepA (w : World) (o : Obj) : Below w.heap.size w (w.alloc o) := (Below.refl _ _).alloc (Nat.le_refl _) o
theorem goodR {W0 wA : World} {c0 c1 c2 c3 c4 : Prop} (hG : Good W0) (h : c0 ∧ c1 ∧ c2 ∧ c3 ∧ c4 ∧ Below W0.heap.size W0 wA) : Good wA := hG.below h.2.2.2.2.2
theorem belR {W0 wA : World} {c0 c1 c2 c3 c4 : Prop} (h : c0 ∧ c1 ∧ c2 ∧ c3 ∧ c4 ∧ Below W0.heap.size W0 wA) : Below W0.heap.size W0 wA := h.2.2.2.2.2
theorem rec_flat (r : Rec) {ss : List ByteArray} (h : ss.map tl = labs (tl r.name)) : flat [mk (labsW (ss.map tl)), b1 r.ty, b2 r.ttl, mk (saidW r)] = recW r := by
 rw [h, ← nameW_eq]
 simp [flat, tl_mk', b1_mk, b2_mk, recW]
set_option maxHeartbeats 1000000 in
theorem recordBytes_any (r : Rec) (w : World) (hG : Good w) (hr : recOk r = true) :
  Calls Tryz.prog 241 #[.agg #[.string r.name, .int .i64 r.ty, .int .i64 r.ttl, .int .i64 r.num, .string r.target]] w fun e w' => e = .returned (.string (mk (recW r))) ∧ Below w.heap.size w w' := by
 have hG' := hG.alloc (.cells #[.string r.name, .int .i64 r.ty, .int .i64 r.ttl, .int .i64 r.num, .string r.target] 71)
 have hB := (Below.refl w.heap.size w).alloc (Nat.le_refl _) (.cells #[.string r.name, .int .i64 r.ty, .int .i64 r.ttl, .int .i64 r.num, .string r.target] 71)
 have hok : nameOk (tl r.name) = true ∧ saysOk r = true := by unfold recOk at hr; simp only [Bool.and_eq_true] at hr; exact ⟨hr.1.1, hr.2⟩
 obtain ⟨hnm, hsy⟩ := hok
 have hlen := recW_length r hr
 have hgl : w.heap.size < (w.alloc (.cells #[.string r.name, .int .i64 r.ty, .int .i64 r.ttl, .int .i64 r.num, .string r.target] 71)).heap.size := by simp
 generalize hW : w.alloc (.cells #[.string r.name, .int .i64 r.ty, .int .i64 r.ttl, .int .i64 r.num, .string r.target] 71) = W0 at hG' hB hgl
 have HW : Hid (w.alloc (.cells #[.string r.name, .int .i64 r.ty, .int .i64 r.ttl, .int .i64 r.num, .string r.target] 71) = W0) := hW
 clear hW
 go_enter Tryz.func241, Tryz.ntmps241
 go_wp2
 rw [HW.out]
 have c0 : W0.cell? ⟨w.heap.size, 0, none⟩ = some (.string r.name) := by rw [← HW.out]; simp
 have c1 : W0.cell? ⟨w.heap.size, 1, none⟩ = some (.int .i64 r.ty) := by rw [← HW.out]; simp
 have c2 : W0.cell? ⟨w.heap.size, 2, none⟩ = some (.int .i64 r.ttl) := by rw [← HW.out]; simp
 have c3 : W0.cell? ⟨w.heap.size, 3, none⟩ = some (.int .i64 r.num) := by rw [← HW.out]; simp
 have c4 : W0.cell? ⟨w.heap.size, 4, none⟩ = some (.string r.target) := by rw [← HW.out]; simp
 have hB0 : Below W0.heap.size W0 W0 := Below.refl _ _
 have hB0d : Below W0.heap.size W0 W0.drew := (Below.refl _ _).drew
 go_region_held3 (fun w' => w'.cell? ⟨w.heap.size, 0, none⟩ = some (.string r.name) ∧ w'.cell? ⟨w.heap.size, 1, none⟩ = some (.int .i64 r.ty) ∧ w'.cell? ⟨w.heap.size, 2, none⟩ = some (.int .i64 r.ttl) ∧ w'.cell? ⟨w.heap.size, 3, none⟩ = some (.int .i64 r.num) ∧ w'.cell? ⟨w.heap.size, 4, none⟩ = some (.string r.target) ∧ Below W0.heap.size W0 w')
  (first | exact keepR hgl (by assumption) (by assumption) | exact keepR hgl (by assumption) (keepA _ _) | go_keep)
  (first
   | (go_at_call 180; refine (Labels_any _ _ (goodR hG' (by assumption)) (nameOk_small hnm)).mono ?_; rintro e w1 ⟨v, ss, rfl, hmap, hsl, hb1⟩; have HM : Hid (ss.map tl = labs (tl r.name)) := hmap; clear hmap)
   | (go_at_call 179; refine (nameBytes_any v ss _ (by assumption) (nameOk_parts HM.out hnm).1 (nameOk_parts HM.out hnm).2).mono ?_; rintro e w2 ⟨rfl, hb2⟩)
   | (go_at_call 177; refine (oneByte_any _ _).mono ?_; rintro e w3 ⟨rfl, hb3⟩)
   | (go_at_call 176; refine (twoBytes_any _ _).mono ?_; rintro e w4 ⟨rfl, hb4⟩)
   | (go_at_call 285; refine (said_any r _ (goodR hG' (by assumption)) hsy).mono ?_; rintro e w5 ⟨rfl, hb5⟩)
   | (go_at_call 175; refine (together_any _ [mk (labsW (ss.map tl)), b1 r.ty, b2 r.ttl, mk (saidW r)] _ (StrSl_lit _ _) (by simp) (by rw [rec_flat r HM.out]; omega)).mono ?_; rw [rec_flat r HM.out]; rintro e w6 ⟨rfl, hb6⟩))
 have hend : Below w.heap.size w w6 := hB.trans ((belR (wA := w6) (by assumption)).mono hB.size)
 go_wp2
 go_ret
 exact ⟨rfl, hend⟩
end Go.Proofs.YtefdokkadckbbaaGreatDoor
end
section
namespace Go.Proofs.YtefdokkadckbbaaGreatDoor
open Go.RowKit
set_option maxRecDepth 100000
def rp (rs : List Rec) : List ByteArray := rs.map fun r => mk (recW r)
theorem rp_length (rs : List Rec) : (rp rs).length = rs.length := by simp [rp]
theorem rp_next {rs : List Rec} {k : Nat} {x : Rec} (h : rs[k]? = some x) : rp (rs.take (k + 1)) = rp (rs.take k) ++ [mk (recW x)] := by
 rw [List.take_add_one, h]; simp [rp]
theorem flat_rp (rs : List Rec) : flat (rp rs) = listW rs := by
 unfold flat rp listW
 rw [List.map_map]
 congr 1
theorem RecSl.any {w : World} {v : Value} {rs : List Rec} (h : RecSl w v rs) : ∃ a c, v = .slice a rs.length c ∧ ∀ (j : Nat) (x : Rec), rs[j]? = some x → ∃ g o, a = some ⟨g, o, none⟩ ∧ g < w.heap.size ∧ RecAt w g (o + j * 5) x := by
 obtain ⟨a, c, hv, rfl | ⟨g, o, ha, hg, _, hr⟩⟩ := h
 ·exact ⟨a, c, hv, fun j x hj => by simp at hj⟩
 ·exact ⟨a, c, hv, fun j x hj => ⟨g, o, ha, hg, hr j x hj⟩⟩
theorem rp_step {w wr w1 w2 : World} {rs : List Rec} {k : Nat} {x : Rec} {v v' : Value} {o o' : Obj} (hx : rs[k]? = some x)
  (hown : wr.ownsRow w.heap.size 9 1 v (rp (rs.take k)).length ((rp (rs.take k)).map Value.string)) (hb : Below w.heap.size w wr) (hb1 : Below (wr.alloc o').heap.size (wr.alloc o') w1)
  (hown' : w2.ownsRow w.heap.size 9 1 v' ((rp (rs.take k)).length + 1) ((rp (rs.take k)).map Value.string ++ [.string (mk (recW x))]))
  (hg : (w1.alloc o).grownBy w2 v.ownBlock) :
  w2.ownsRow w.heap.size 9 1 v' (rp (rs.take (k + 1))).length ((rp (rs.take (k + 1))).map Value.string) ∧ Below w.heap.size w w2 := by
 have hba := hb.alloc hb.size o'
 have hb2 : Below w.heap.size w w1 := hba.trans (hb1.mono hba.size)
 refine ⟨?_, (hb2.alloc hb2.size o).grown hg (by have := hb2.size; simp; omega) (own_ge hown)⟩
 rw [rp_next hx]
 simpa using hown'
set_option maxHeartbeats 1000000 in
theorem listBytes_any (v : Value) (rs : List Rec) (w : World) (hG : Good w) (hv : RecSl w v rs) (hok : listOk rs = true) :
  Calls Tryz.prog 181 #[v] w fun e w' => e = .returned (.string (mk (listW rs))) ∧ Below w.heap.size w w' := by
 obtain ⟨i0, hi, hz0, hz1, hz2⟩ := info_parts info9
 obtain ⟨a, c, rfl, hcell⟩ := hv.any
 have hok' : rs.length ≤ 10 ∧ rs.all recOk = true := by unfold listOk at hok; simpa using hok
 obtain ⟨h10, hall⟩ := hok'
 have hlw := listW_length rs hall
 have HF : Hid (flat (rp rs) = listW rs) := flat_rp rs
 have HC : Hid (∀ (j : Nat) (x : Rec), rs[j]? = some x → ∃ g o, a = some ⟨g, o, none⟩ ∧ g < w.heap.size ∧ RecAt w g (o + j * 5) x) := hcell
 have HO : Hid (∀ (j : Nat) (x : Rec), rs[j]? = some x → recOk x = true) := fun j x hx => List.all_eq_true.1 hall x (List.mem_of_getElem? hx)
 have HG : Hid (Good w) := hG
 clear hcell hall hok hG hv
 go_enter Tryz.func181, Tryz.ntmps181
 go_wp2_with (at_make; refine wpList_make_own _ rfl _ _ 42 rfl w.heap.size 9 i0 (.string ByteArray.empty) 1 u106 hi hz0 hz1 _ _ _ rs.length rfl rfl rfl ?b2 ?b3 (Nat.le_refl _) ?_)
 case b2 => rw [hz2]; omega
 case b3 => unfold maxLen; omega
 intro w0 hown0 hgrow0
 have hB0 : Below w.heap.size w w0 := (Below.refl _ _).grown hgrow0 (Nat.le_refl _) (fun k h => by cases h)
 clear hgrow0
 go_wp2
 go_loopw [3, 11] (fun v i wr => ∃ k : Nat, k ≤ rs.length ∧ i = .int .i64 k ∧ wr.ownsRow w.heap.size 9 1 v (rp (rs.take k)).length ((rp (rs.take k)).map Value.string) ∧ Below w.heap.size w wr) (fun _ i _ => rs.length - (intOf i).toNat)
 case atStart => exact ⟨0, Nat.zero_le _, rfl, hown0, hB0⟩
 case round =>
  obtain ⟨k, hk, rfl, hown, hb⟩ := hrel
  by_cases hlt : k < rs.length
  ·obtain ⟨x, hx⟩ := rec_at hlt
   obtain ⟨g, o, rfl, hg, hra⟩ := HC.out k x hx
   obtain ⟨c0, c1, c2, c3, c4⟩ := hra.below hb hg
   clear hra
   have hokx := HO.out k x hx
   have HX : Hid (rs[k]? = some x) := hx
   clear hx
   have hpl : (rp (rs.take k)).length ≤ 10 := by rw [rp_length, List.length_take]; omega
   have hG1 := HG.out.below hb
   go_wp2_with fail
   refine (recordBytes_any x _ (hG1.alloc _) hokx).mono ?_
   rintro e w1 ⟨rfl, hb1⟩
   go_wp2_with (first
     | (at_builtin; refine wpList_append_own _ rfl _ _ 42 rfl w.heap.size 9 i0 (.string ByteArray.empty) 1 16 u106 hi hz0 hz1 hz2 rfl (by decide) _ _ _ rfl (((hown.alloc _).below hb1).alloc _) ⟨w1.heap.size, 0, none⟩ 1 1 [.string (mk (recW x))] rfl rfl ?c1 ?c2 ?c3 ?c4 ?c5 ?_))
   case c1 =>
    intro j u hj
    match j, hj with
    | 0, hj => simp at hj; subst hj; simp [Addr.add]
   case c2 => intro u hu; simp at hu; subst hu; rfl
   case c3 => unfold maxLen; omega
   case c4 => omega
   case c5 => have := hb.size; have := hb1.size; simp at this ⊢; omega
   intro v' w2 hown' hgrow _
   have R := rp_step HX.out hown hb hb1 hown' hgrow
   clear hown' hgrow hown
   go_wp2
   go_roundw
   case rel => exact ⟨k + 1, hlt, by go_num, R.1, R.2⟩
   case measure => simp [intOf]; omega
  ·have hk' : rs.take k = rs := List.take_of_length_le (by omega)
   rw [hk'] at hown
   clear hk'
   go_wp2_with fail
   refine (together_any _ (rp rs) _ (StrSl_of_owns hown) (by rw [rp_length]; omega) (by rw [HF.out]; omega)).mono ?_
   rintro e w1 ⟨rfl, hb1⟩
   go_wp2
   go_ret
   exact ⟨ret_str (congrArg mk HF.out), hb.trans (hb1.mono hb.size)⟩
end Go.Proofs.YtefdokkadckbbaaGreatDoor
end
section
namespace Go.Proofs.YtefdokkadckbbaaGreatDoor
open Go.RowKit
set_option maxRecDepth 100000
theorem bt_true {a n b : Int} (h : (decide (a ≤ n) && decide (n ≤ b)) = true) : decide (a ≤ n ∧ n ≤ b) = true := by simpa using h
theorem bt_false {a n b : Int} (h : (decide (a ≤ n) && decide (n ≤ b)) = false) : decide (a ≤ n ∧ n ≤ b) = false := by simpa using h
def SmallM (m : Msg) : Prop := m.name.size ≤ 1048576 ∧ Small m.answer ∧ Small m.servers ∧ Small m.more
theorem _root_.Go.RowKit.Below.step {B : Nat} {w w1 w2 : World} (h : Below B w w1) (hB : B ≤ w.heap.size) (h2 : Below w1.heap.size w1 w2) : Below B w w2 := h.trans (h2.mono (Nat.le_trans hB h.size))
set_option maxHeartbeats 2000000 in
theorem isMessage_any (m : Msg) (va vs vm : Value) (w : World) (hG : Good w) (hS : SmallM m) (ha : RecSl w va m.answer) (hs : RecSl w vs m.servers) (hm : RecSl w vm m.more) :
  Calls Tryz.prog 133 #[.agg #[.int .i64 m.id, .bool m.reply, .int .i64 m.code, .string m.name, .int .i64 m.ty, va, vs, vm]] w fun e w' => e = .returned (.bool (msgOk m)) ∧ Below w.heap.size w w' := by
 obtain ⟨aa, ca, rfl, hra⟩ := ha
 obtain ⟨ab, cs, rfl, hrs⟩ := hs
 obtain ⟨am, cm, rfl, hrm⟩ := hm
 have hA : RecSl w (.slice aa m.answer.length ca) m.answer := ⟨aa, ca, rfl, hra⟩
 have hSv : RecSl w (.slice ab m.servers.length cs) m.servers := ⟨ab, cs, rfl, hrs⟩
 have hM : RecSl w (.slice am m.more.length cm) m.more := ⟨am, cm, rfl, hrm⟩
 clear hra hrs hrm
 have hG' := hG.alloc (.cells #[.int .i64 m.id, .bool m.reply, .int .i64 m.code, .string m.name, .int .i64 m.ty, .slice aa m.answer.length ca, .slice ab m.servers.length cs, .slice am m.more.length cm] 27)
 have hB := (Below.refl w.heap.size w).alloc (Nat.le_refl _) (.cells #[.int .i64 m.id, .bool m.reply, .int .i64 m.code, .string m.name, .int .i64 m.ty, .slice aa m.answer.length ca, .slice ab m.servers.length cs, .slice am m.more.length cm] 27)
 obtain ⟨z0, z1, z2, z3⟩ := hS
 cases hi : (decide (0 ≤ m.id) && decide (m.id ≤ 65535)) with
 | false =>
  go_enter Tryz.func133, Tryz.ntmps133
  go_wp2_with (go_at_call 106; refine (between_any _ _ _ _).mono ?_; rw [hi]; rintro e w' ⟨rfl, rfl⟩)
  go_ret
  exact ⟨ret_bool (by unfold msgOk numsOk; rw [bt_false hi]; rfl), hB⟩
 | true =>
 cases hc : (decide (0 ≤ m.code) && decide (m.code ≤ 3)) with
 | false =>
  go_enter Tryz.func133, Tryz.ntmps133
  go_wp2_with fail
  refine (between_any _ _ _ _).mono ?_
  rw [hi]; rintro e w' ⟨rfl, rfl⟩
  go_wp2_with (go_at_call 106; refine (between_any _ _ _ _).mono ?_; rw [hc]; rintro e w' ⟨rfl, rfl⟩)
  go_ret
  exact ⟨ret_bool (by unfold msgOk numsOk; rw [bt_false hc]; simp), hB⟩
 | true =>
 cases hn : nameOk (tl m.name) with
 | false =>
  go_enter Tryz.func133, Tryz.ntmps133
  go_wp2_with fail
  refine (between_any _ _ _ _).mono ?_
  rw [hi]; rintro e w' ⟨rfl, rfl⟩
  go_wp2_with fail
  refine (between_any _ _ _ _).mono ?_
  rw [hc]; rintro e w' ⟨rfl, rfl⟩
  go_wp2_with (go_at_call 173; refine (Valid_any _ _ hG' z0).mono ?_; rw [hn]; rintro e w1 ⟨rfl, hb1⟩)
  go_ret
  exact ⟨ret_bool (by unfold msgOk; rw [hn]; simp), hB.trans (hb1.mono (by simp))⟩
 | true =>
 go_enter Tryz.func133, Tryz.ntmps133
 go_wp2_with fail
 refine (between_any _ _ _ _).mono ?_
 rw [hi]; rintro e w' ⟨rfl, rfl⟩
 go_wp2_with fail
 refine (between_any _ _ _ _).mono ?_
 rw [hc]; rintro e w' ⟨rfl, rfl⟩
 go_wp2_with fail
 refine (Valid_any _ _ hG' z0).mono ?_
 rw [hn]
 rintro e w1 ⟨rfl, hb1⟩
 have hG1 := hG'.below hb1
 have hB1 := hB.trans (hb1.mono (by simp))
 obtain ⟨hc1, _⟩ := bcell hb1
 have hz1 : w.heap.size < w1.heap.size := by have := hb1.size; simp at this; omega
 cases ht : (decide (0 ≤ m.ty) && decide (m.ty ≤ 4)) with
 | false =>
  go_wp2_with (go_at_call 106; refine (between_any _ _ _ _).mono ?_; rw [ht]; rintro e w' ⟨rfl, rfl⟩)
  go_ret
  exact ⟨ret_bool (by unfold msgOk numsOk; rw [bt_false ht]; simp), hB1⟩
 | true =>
 go_wp2_with fail
 refine (between_any _ _ _ _).mono ?_
 rw [ht]; rintro e w' ⟨rfl, rfl⟩
 cases h1 : listOk m.answer with
 | false =>
  go_wp2_with (go_at_call 174; refine (isList_any _ m.answer _ hG1 z1 (hA.below hB1)).mono ?_; rw [h1]; rintro e w2 ⟨rfl, hb2⟩)
  go_ret
  exact ⟨ret_bool (by unfold msgOk; rw [h1]; simp), hB1.step (Nat.le_refl _) hb2⟩
 | true =>
 go_wp2_with fail
 refine (isList_any _ m.answer _ hG1 z1 (hA.below hB1)).mono ?_
 rw [h1]; rintro e w2 ⟨rfl, hb2⟩
 have hG2 := hG1.below hb2
 have hB2 := hB1.step (Nat.le_refl _) hb2
 obtain ⟨hc2, _⟩ := bcell hb2
 have hz2 : w.heap.size < w2.heap.size := Nat.lt_of_lt_of_le hz1 hb2.size
 cases h2 : listOk m.servers with
 | false =>
  go_wp2_with (go_at_call 174; refine (isList_any _ m.servers _ hG2 z2 (hSv.below hB2)).mono ?_; rw [h2]; rintro e w3 ⟨rfl, hb3⟩)
  go_ret
  exact ⟨ret_bool (by unfold msgOk; rw [h2]; simp), hB2.step (Nat.le_refl _) hb3⟩
 | true =>
 go_wp2_with fail
 refine (isList_any _ m.servers _ hG2 z2 (hSv.below hB2)).mono ?_
 rw [h2]; rintro e w3 ⟨rfl, hb3⟩
 have hG3 := hG2.below hb3
 have hB3 := hB2.step (Nat.le_refl _) hb3
 obtain ⟨hc3, _⟩ := bcell hb3
 go_wp2_with fail
 refine (isList_any _ m.more _ hG3 z3 (hM.below hB3)).mono ?_
 rintro e w4 ⟨rfl, hb4⟩
 go_wp2
 go_ret
 exact ⟨ret_bool (by unfold msgOk numsOk; rw [bt_true hi, bt_true hc, bt_true ht, hn, h1, h2]; rfl), hB3.step (Nat.le_refl _) hb4⟩
end Go.Proofs.YtefdokkadckbbaaGreatDoor
end
