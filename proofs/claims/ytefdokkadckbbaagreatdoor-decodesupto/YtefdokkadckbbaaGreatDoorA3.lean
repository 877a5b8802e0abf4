/- The reference's split: a name's labels, in new memory. -/
import Derived.Test.YtefdokkadckbbaaGreatDoorA2
namespace Go.Proofs.YtefdokkadckbbaaGreatDoor
open Go.RowKit
set_option maxRecDepth 100000

/-- The slice value v holds the texts xs. -/
def StrSl (w : World) (v : Value) (xs : List ByteArray) : Prop :=
  (xs = [] ∧ v = .slice none 0 0) ∨ ∃ g o c, v = .slice (some ⟨g, o, none⟩) xs.length c ∧ g < w.heap.size ∧ xs.length ≤ c ∧ ∀ j x, xs[j]? = some x → w.cell? ⟨g, o + j, none⟩ = some (.string x)

theorem info9 : (Tryz.prog.info? 9).map (fun i => (i.zero, i.size, i.bytes)) = some (some (.string ByteArray.empty), 1, 16) := by kernel_rfl
theorem u106 : Tryz.prog.underlying 42 = some (.slice 9) := by kernel_rfl

theorem StrSl_of_owns {w : World} {base : Nat} {v : Value} {ss : List ByteArray} (h : w.ownsRow base 9 1 v ss.length (ss.map Value.string)) : StrSl w v ss := by
  obtain ⟨hl, h | ⟨g, cap, cur, hv, hg, hh, hn, hm, hc, ht⟩⟩ := h
  · left
    exact ⟨List.length_eq_zero_iff.1 h.2, h.1⟩
  · right
    subst hv
    have hlt : g < w.heap.size := (Array.getElem?_eq_some_iff.1 hh).1
    refine ⟨g, 0, cap, rfl, hlt, hn, fun j x hj => ?_⟩
    have hj' : j < ss.length := (List.getElem?_eq_some_iff.1 hj).1
    have hown : w.ownsRow base 9 1 (.slice (some ⟨g, 0, none⟩) ss.length cap) ss.length (ss.map Value.string) := ⟨hl, .inr ⟨g, cap, cur, rfl, hg, hh, hn, hm, hc, ht⟩⟩
    rw [Nat.zero_add, hown.cellAt j (by omega)]
    simp [hj]

/-- The letters of s from a to b. -/
def seg (s : ByteArray) (a b : Nat) : List UInt8 := ((tl s).drop a).take (b - a)

theorem seg_extract (s : ByteArray) (a b : Nat) : tl (s.extract a b) = seg s a b := by
  simp [tl, seg, ByteArray.extract, ByteArray.copySlice]
theorem seg_self (s : ByteArray) (a : Nat) : seg s a a = [] := by simp [seg]
theorem drop_cons (s : ByteArray) (k : Nat) (hk : k < s.size) : (tl s).drop k = s[k] :: (tl s).drop (k + 1) := by
  rw [List.drop_eq_getElem_cons (by simpa [tl_length] using hk)]; rfl
theorem seg_snoc (s : ByteArray) (f k : Nat) (hk : k < s.size) (hf : f ≤ k) : seg s f (k + 1) = seg s f k ++ [s[k]] := by
  unfold seg
  have h1 : k - f < ((tl s).drop f).length := by rw [List.length_drop, tl_length]; omega
  rw [show k + 1 - f = (k - f) + 1 by omega, List.take_succ_eq_append_getElem h1]
  congr 2
  rw [List.getElem_drop]
  have : f + (k - f) = k := by omega
  simp only [this]; rfl
theorem seg_end (s : ByteArray) (f k : Nat) (h : s.size ≤ k) : seg s f k = seg s f s.size := by
  unfold seg
  rw [List.take_of_length_le (by rw [List.length_drop, tl_length]; omega), List.take_of_length_le (by rw [List.length_drop, tl_length]; omega)]

theorem cutAcc_dot (s : ByteArray) (f k : Nat) (hk : k < s.size) (h : (s[k].toNat : Int) = 46) :
    cutAcc (seg s f k) ((tl s).drop k) = seg s f k :: cutAcc (seg s (k + 1) (k + 1)) ((tl s).drop (k + 1)) := by
  rw [drop_cons s k hk, cutAcc, if_pos (by omega), seg_self]
theorem cutAcc_letter (s : ByteArray) (f k : Nat) (hk : k < s.size) (hf : f ≤ k) (h : ¬ (s[k].toNat : Int) = 46) :
    cutAcc (seg s f k) ((tl s).drop k) = cutAcc (seg s f (k + 1)) ((tl s).drop (k + 1)) := by
  rw [drop_cons s k hk, cutAcc, if_neg (by omega), seg_snoc s f k hk hf]

theorem empty_iff (s : ByteArray) : s.toList.isEmpty = (tl s).isEmpty := by
  obtain ⟨⟨l⟩⟩ := s
  rw [show (ByteArray.mk { toList := l }) = ByteArray.mk l.toArray from rfl, ByteArray.toList_mk]
  rfl
theorem labs_ne {s : ByteArray} (h : s.toList.isEmpty = false) : labs (tl s) = cutAcc (seg s 0 0) ((tl s).drop 0) := by
  rw [empty_iff] at h
  unfold labs
  rw [if_neg (by intro e; rw [e] at h; simp at h), seg_self, List.drop_zero]

theorem own_ge {w : World} {base : Nat} {v : Value} {n : Nat} {xs : List Value} (h : w.ownsRow base 9 1 v n xs) : ∀ k, v.ownBlock = some k → base ≤ k := fun k hk => (h.lt k hk).1

theorem split_step {s : ByteArray} {w wr w1 : World} {k fr : Nat} {ss : List ByteArray} {v v' : Value} {o : Obj} (hlt : k < s.size) (hd : (s[k].toNat : Int) = 46)
    (hown : wr.ownsRow w.heap.size 9 1 v ss.length (ss.map Value.string)) (hown' : w1.ownsRow w.heap.size 9 1 v' (ss.length + 1) (ss.map Value.string ++ [.string (s.extract fr k)]))
    (hg : (wr.alloc o).grownBy w1 v.ownBlock) (hb : Below w.heap.size w wr) (hc : ss.map tl ++ cutAcc (seg s fr k) ((tl s).drop k) = labs (tl s)) :
    w1.ownsRow w.heap.size 9 1 v' (ss ++ [s.extract fr k]).length ((ss ++ [s.extract fr k]).map Value.string) ∧ Below w.heap.size w w1 ∧
      (ss ++ [s.extract fr k]).map tl ++ cutAcc (seg s (k + 1) (k + 1)) ((tl s).drop (k + 1)) = labs (tl s) := by
  refine ⟨by simpa using hown', (hb.alloc hb.size o).grown hg (by have := hb.size; simp; omega) (own_ge hown), ?_⟩
  rw [← hc, cutAcc_dot s fr k hlt hd, List.map_append, List.append_assoc]
  simp [seg_extract]

theorem split_last {s : ByteArray} {w wr w1 : World} {k fr : Nat} {ss : List ByteArray} {v v' : Value} {o : Obj} (hk : k ≤ s.size) (hlt : ¬ k < s.size)
    (hown : wr.ownsRow w.heap.size 9 1 v ss.length (ss.map Value.string)) (hown' : w1.ownsRow w.heap.size 9 1 v' (ss.length + 1) (ss.map Value.string ++ [.string (s.extract fr s.size)]))
    (hg : (wr.alloc o).grownBy w1 v.ownBlock) (hb : Below w.heap.size w wr) (hc : ss.map tl ++ cutAcc (seg s fr k) ((tl s).drop k) = labs (tl s)) :
    w1.ownsRow w.heap.size 9 1 v' (ss ++ [s.extract fr s.size]).length ((ss ++ [s.extract fr s.size]).map Value.string) ∧ Below w.heap.size w w1 ∧
      (ss ++ [s.extract fr s.size]).map tl = labs (tl s) := by
  refine ⟨by simpa using hown', (hb.alloc hb.size o).grown hg (by have := hb.size; simp; omega) (own_ge hown), ?_⟩
  have e : k = s.size := by omega
  subst e
  rw [← hc, List.drop_of_length_le (by rw [tl_length]; omega)]
  simp [seg_extract, cutAcc]

set_option maxHeartbeats 400000 in
theorem split_any (s : ByteArray) (w : World) (hs : s.size ≤ 1048576) :
    Calls Tryz.prog 229 #[.string s] w fun e w' => ∃ v ss, e = .returned v ∧ ss.map tl = labs (tl s) ∧ StrSl w' v ss ∧ Below w.heap.size w w' := by
  obtain ⟨i0, hi, hz0, hz1, hz2⟩ := info_parts info9
  cases h0 : s.toList.isEmpty with
  | true =>
    go_enter Tryz.func229, Tryz.ntmps229
    go_wp2
    go_ret
    exact ⟨_, [], rfl, by rw [empty_iff] at h0; have : tl s = [] := List.isEmpty_iff.1 h0; rw [this]; rfl, .inl ⟨rfl, rfl⟩, Below.refl _ _⟩
  | false =>
    go_enter Tryz.func229, Tryz.ntmps229
    go_wp2
    go_loopw [3, 4, 5] (fun v f i wr => ∃ (k fr : Nat) (ss : List ByteArray), k ≤ s.size ∧ fr ≤ k ∧ ss.length ≤ fr ∧ i = .int .i64 k ∧ f = .int .i64 fr ∧ wr.ownsRow w.heap.size 9 1 v ss.length (ss.map Value.string) ∧ Below w.heap.size w wr ∧
        ss.map tl ++ cutAcc (seg s fr k) ((tl s).drop k) = labs (tl s)) (fun _ _ i _ => s.size - (intOf i).toNat)
    case atStart => exact ⟨0, 0, [], Nat.zero_le _, Nat.le_refl _, Nat.le_refl _, rfl, rfl, World.ownsRow_nil _ _ _ _, Below.refl _ _, (labs_ne h0).symm⟩
    case round =>
      obtain ⟨k, fr, ss, hk, hf, hsl, rfl, rfl, hown, hb, hcut⟩ := hrel
      have HC : Hid (ss.map tl ++ cutAcc (seg s fr k) ((tl s).drop k) = labs (tl s)) := hcut
      clear hcut
      by_cases hlt : k < s.size
      · by_cases hd : (s[k].toNat : Int) = 46
        · go_wp2_with (first
            | (at_builtin; refine wpList_append_own _ rfl _ _ 42 rfl w.heap.size 9 i0 (.string ByteArray.empty) 1 16 u106 hi hz0 hz1 hz2 rfl (by decide) _ _ _ rfl (hown.alloc _) ⟨wr.heap.size, 0, none⟩ 1 1 [.string (s.extract fr k)] rfl rfl ?c1 ?c2 ?c3 ?c4 ?c5 ?_))
          case c1 =>
            intro j u hj
            match j, hj with
            | 0, hj => simp at hj; subst hj; simp [Addr.add]
          case c2 => intro u hu; simp at hu; subst hu; rfl
          case c3 => unfold maxLen; omega
          case c4 => omega
          case c5 => have := hb.size; simp; omega
          intro v' w1 hown' hgrow _
          have R := split_step hlt hd hown hown' hgrow hb HC.out
          clear hown' hgrow hown
          go_wp2
          go_roundw
          case rel => exact ⟨k + 1, k + 1, ss ++ [s.extract fr k], hlt, Nat.le_refl _, by simp; omega, by go_num, by go_num, R.1, R.2.1, R.2.2⟩
          case measure => simp [intOf]; omega
        · go_wp2
          go_roundw
          case rel => exact ⟨k + 1, fr, ss, hlt, by omega, hsl, by go_num, rfl, hown, hb, by rw [← cutAcc_letter s fr k hlt hf hd]; exact HC.out⟩
          case measure => simp [intOf]; omega
      · go_wp2_with (first
            | (at_builtin; refine wpList_append_own _ rfl _ _ 42 rfl w.heap.size 9 i0 (.string ByteArray.empty) 1 16 u106 hi hz0 hz1 hz2 rfl (by decide) _ _ _ rfl (hown.alloc _) ⟨wr.heap.size, 0, none⟩ 1 1 [.string (s.extract fr s.size)] rfl rfl ?d1 ?d2 ?d3 ?d4 ?d5 ?_))
        case d1 =>
          intro j u hj
          match j, hj with
          | 0, hj => simp at hj; subst hj; simp [Addr.add]
        case d2 => intro u hu; simp at hu; subst hu; rfl
        case d3 => unfold maxLen; omega
        case d4 => omega
        case d5 => have := hb.size; simp; omega
        intro v' w1 hown' hgrow _
        have R := split_last hk hlt hown hown' hgrow hb HC.out
        clear hown' hgrow hown
        go_wp2
        go_ret
        exact ⟨_, _, rfl, R.2.2, StrSl_of_owns R.1, R.2.1⟩
end Go.Proofs.YtefdokkadckbbaaGreatDoor
