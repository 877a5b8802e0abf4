/- What the reference's Decode reads, step by step, is what a message is. -/
import Derived.Test.YtefdokkadckbbaaGreatDoorI4
namespace Go.Proofs.YtefdokkadckbbaaGreatDoor
open Go.RowKit

/-- The three lists. -/
def listsS (t : List UInt8) (hd : List Rec → List Rec → List Rec → Msg) (a b c n : Nat) : Option Msg :=
  (recsS t a n).bind fun la => (recsS t b la.2).bind fun lb => (recsS t c lb.2).bind fun lc => if lc.2 = t.length then some (hd la.1 lb.1 lc.1) else none
def tailS (t : List UInt8) (hd : List Rec → List Rec → List Rec → Msg) (n : Nat) : Option Msg :=
  (numS t 0 10 n).bind fun ka => (numS t 0 10 ka.2).bind fun kb => (numS t 0 10 kb.2).bind fun kc => listsS t hd ka.1.toNat kb.1.toNat kc.1.toNat kc.2
def headS (t : List UInt8) (hd : List UInt8 → Int → List Rec → List Rec → List Rec → Msg) (n : Nat) : Option Msg :=
  (nameS t n).bind fun nm => (numS t 0 4 nm.2).bind fun ty => tailS t (hd nm.1 ty.1) ty.2

theorem numS_in {s : ByteArray} {hi : Int} {n : Nat} (h : n < s.size) (hb : (s[n].toNat : Int) ≤ hi) : numS (tl s) 0 hi n = some ((s[n].toNat : Int), n + 1) := by
  unfold numS; rw [byteS_at h, Option.bind_some, if_pos ⟨by simp, hb⟩]
theorem numS_big {s : ByteArray} {hi : Int} {n : Nat} (h : n < s.size) (hb : ¬ (s[n].toNat : Int) ≤ hi) : numS (tl s) 0 hi n = none := by
  unfold numS; rw [byteS_at h, Option.bind_some, if_neg (by simp; omega)]
theorem numS_out {s : ByteArray} {hi : Int} {n : Nat} (h : ¬ n < s.size) : numS (tl s) 0 hi n = none := by
  unfold numS; rw [byteS_out h]; rfl

theorem msgS_long {s : ByteArray} (h : ¬ s.size ≤ 1000) : msgS (tl s) = none := by
  unfold msgS; rw [if_neg (by rw [tl_length]; exact h)]
theorem msgS_two {s : ByteArray} (h : s.size ≤ 1000) (h0 : 0 < s.size) (h1 : 1 < s.size) : msgS (tl s) =
    (kindS (tl s) 2).bind fun rep => (numS (tl s) 0 3 rep.2).bind fun code => headS (tl s) (fun nm ty la lb lc => ⟨(s[0].toNat : Int) + (s[1].toNat : Int) * 256, rep.1, code.1, mk nm, ty, la, lb, lc⟩) code.2 := by
  unfold msgS twoS
  rw [if_pos (by rw [tl_length]; exact h), byteS_at h0, Option.bind_some]
  simp only
  rw [byteS_at h1]
  rfl
theorem msgS_short {s : ByteArray} (h4 : s.size < 4) : msgS (tl s) = none := by
  by_cases h1 : 1 < s.size
  · rw [msgS_two (by omega) (by omega) h1]
    cases hk : kindS (tl s) 2 with
    | none => rfl
    | some x =>
      obtain ⟨r, m⟩ := x
      have := kindS_bd hk
      rw [Option.bind_some]
      simp only
      rw [numS_out (by omega)]; rfl
  · unfold msgS
    rw [if_pos (by rw [tl_length]; omega)]
    have : twoS (tl s) 0 = none := by
      cases h : twoS (tl s) 0 with
      | none => rfl
      | some x => obtain ⟨a, m⟩ := x; have := twoS_bd h; rw [tl_length] at this; omega
    rw [this]; rfl
theorem msgS_kind {s : ByteArray} (h : s.size ≤ 1000) (h2 : 2 < s.size) (hq : ¬ (s[2].toNat : Int) = 113) (hr : ¬ (s[2].toNat : Int) = 114) : msgS (tl s) = none := by
  rw [msgS_two h (by omega) (by omega)]
  unfold kindS
  rw [byteS_at h2, Option.bind_some, if_neg hq, if_neg hr]; rfl
theorem kindS_at {s : ByteArray} {b : Bool} (h2 : 2 < s.size) (hb : (s[2].toNat : Int) = if b then 114 else 113) : kindS (tl s) 2 = some (b, 3) := by
  unfold kindS
  rw [byteS_at h2, Option.bind_some]
  simp only
  cases b with
  | true => rw [if_neg (by rw [hb]; decide), if_pos (by rw [hb]; rfl)]
  | false => rw [if_pos (by rw [hb]; rfl)]
theorem msgS_code {s : ByteArray} {b : Bool} (h : s.size ≤ 1000) (h3 : 3 < s.size) (hb : (s[2].toNat : Int) = if b then 114 else 113) (hc : ¬ (s[3].toNat : Int) ≤ 3) : msgS (tl s) = none := by
  rw [msgS_two h (by omega) (by omega), kindS_at (by omega) hb, Option.bind_some]
  simp only
  rw [numS_big h3 hc]; rfl
theorem msgS_head {s : ByteArray} {b : Bool} (h : s.size ≤ 1000) (h3 : 3 < s.size) (hb : (s[2].toNat : Int) = if b then 114 else 113) (hc : (s[3].toNat : Int) ≤ 3) : msgS (tl s) =
    headS (tl s) (fun nm ty la lb lc => ⟨(s[0].toNat : Int) + (256 : Int) * (s[1].toNat : Int), b, (s[3].toNat : Int), mk nm, ty, la, lb, lc⟩) 4 := by
  rw [msgS_two h (by omega) (by omega), kindS_at (by omega) hb, Option.bind_some]
  simp only
  rw [numS_in h3 hc, Option.bind_some, Int.mul_comm]
theorem headS_none {t : List UInt8} {hd : List UInt8 → Int → List Rec → List Rec → List Rec → Msg} {n : Nat} (h : cutS t n = none) : headS t hd n = none := by
  unfold headS; rw [nameS_cut, h]; rfl
theorem headS_out {s : ByteArray} {hd : List UInt8 → Int → List Rec → List Rec → List Rec → Msg} {n : Nat} {l : List (List UInt8)} {m : Nat} (h : cutS (tl s) n = some (l, m)) (hm : s.size < m + 4) : headS (tl s) hd n = none := by
  unfold headS; rw [nameS_cut, h, Option.map_some, Option.bind_some]
  simp only
  have out : ∀ k (g : Int × Nat → Option Msg), s.size ≤ k → (numS (tl s) 0 10 k).bind g = none := fun k g hk => by rw [numS_out (by omega)]; rfl
  cases h0 : numS (tl s) 0 4 m with
  | none => rfl
  | some a =>
    obtain ⟨a, m0⟩ := a
    have b0 := numS_bd h0
    rw [Option.bind_some]
    unfold tailS
    simp only
    cases h1 : numS (tl s) 0 10 m0 with
    | none => rfl
    | some a1 =>
      obtain ⟨a1, m1⟩ := a1
      have b1 := numS_bd h1
      rw [Option.bind_some]
      simp only
      cases h2 : numS (tl s) 0 10 m1 with
      | none => rfl
      | some a2 =>
        obtain ⟨a2, m2⟩ := a2
        have b2 := numS_bd h2
        rw [Option.bind_some]
        exact out m2 _ (by rw [tl_length] at *; omega)
theorem headS_type {s : ByteArray} {hd : List UInt8 → Int → List Rec → List Rec → List Rec → Msg} {n : Nat} {l : List (List UInt8)} {m : Nat} (h : cutS (tl s) n = some (l, m)) (hm : m < s.size) (ht : ¬ (s[m].toNat : Int) ≤ 4) : headS (tl s) hd n = none := by
  unfold headS; rw [nameS_cut, h, Option.map_some, Option.bind_some, numS_big hm ht]; rfl
theorem headS_tail {s : ByteArray} {hd : List UInt8 → Int → List Rec → List Rec → List Rec → Msg} {n : Nat} {l : List (List UInt8)} {m : Nat} (h : cutS (tl s) n = some (l, m)) (hm : m < s.size) (ht : (s[m].toNat : Int) ≤ 4) : headS (tl s) hd n = tailS (tl s) (hd (dotJoin l) (s[m].toNat : Int)) (m + 1) := by
  unfold headS; rw [nameS_cut, h, Option.map_some, Option.bind_some, numS_in hm ht]; rfl

section
variable {s : ByteArray} {hd : List Rec → List Rec → List Rec → Msg} {m a b c : Nat}
theorem tailS_is (h1 : m + 1 < s.size) (h2 : m + 2 < s.size) (h3 : m + 3 < s.size) (ha : s[m + 1].toNat = a) (hb : s[m + 2].toNat = b) (hc : s[m + 3].toNat = c) : tailS (tl s) hd (m + 1) = if a ≤ 10 then if b ≤ 10 then if c ≤ 10 then listsS (tl s) hd a b c (m + 4) else none else none else none := by
  subst ha; subst hb; subst hc
  unfold tailS
  by_cases ka : s[m + 1].toNat ≤ 10
  · rw [if_pos ka, numS_in h1 (by omega), Option.bind_some]
    simp only
    by_cases kb : s[m + 2].toNat ≤ 10
    · rw [if_pos kb, numS_in h2 (by omega), Option.bind_some]
      simp only
      by_cases kc : s[m + 3].toNat ≤ 10
      · rw [if_pos kc, numS_in h3 (by omega), Option.bind_some]
        simp only [Int.toNat_natCast]
      · rw [if_neg kc, numS_big h3 (by omega)]; rfl
    · rw [if_neg kb, numS_big h2 (by omega)]; rfl
  · rw [if_neg ka, numS_big h1 (by omega)]; rfl
theorem tail_b0 (h1 : m + 1 < s.size) (h2 : m + 2 < s.size) (h3 : m + 3 < s.size) (ha : s[m + 1].toNat = a) (hb : s[m + 2].toNat = b) (hc : s[m + 3].toNat = c) (h : ¬ a ≤ 10) : tailS (tl s) hd (m + 1) = none := by rw [tailS_is h1 h2 h3 ha hb hc, if_neg h]
theorem tail_b1 (h1 : m + 1 < s.size) (h2 : m + 2 < s.size) (h3 : m + 3 < s.size) (ha : s[m + 1].toNat = a) (hb : s[m + 2].toNat = b) (hc : s[m + 3].toNat = c) (h : ¬ b ≤ 10) : tailS (tl s) hd (m + 1) = none := by rw [tailS_is h1 h2 h3 ha hb hc, if_neg h]; split <;> rfl
theorem tail_b2 (h1 : m + 1 < s.size) (h2 : m + 2 < s.size) (h3 : m + 3 < s.size) (ha : s[m + 1].toNat = a) (hb : s[m + 2].toNat = b) (hc : s[m + 3].toNat = c) (h : ¬ c ≤ 10) : tailS (tl s) hd (m + 1) = none := by rw [tailS_is h1 h2 h3 ha hb hc, if_neg h]; split <;> (try split) <;> rfl
theorem tail_of (h1 : m + 1 < s.size) (h2 : m + 2 < s.size) (h3 : m + 3 < s.size) (ha : s[m + 1].toNat = a) (hb : s[m + 2].toNat = b) (hc : s[m + 3].toNat = c) (h : listsS (tl s) hd a b c (m + 4) = none) : tailS (tl s) hd (m + 1) = none := by rw [tailS_is h1 h2 h3 ha hb hc, h]; split <;> (try split) <;> (try split) <;> rfl
theorem tail_r0 (h1 : m + 1 < s.size) (h2 : m + 2 < s.size) (h3 : m + 3 < s.size) (ha : s[m + 1].toNat = a) (hb : s[m + 2].toNat = b) (hc : s[m + 3].toNat = c) (h : recsS (tl s) a (m + 4) = none) : tailS (tl s) hd (m + 1) = none := tail_of h1 h2 h3 ha hb hc (by unfold listsS; rw [h]; rfl)
theorem tail_r1 (h1 : m + 1 < s.size) (h2 : m + 2 < s.size) (h3 : m + 3 < s.size) (ha : s[m + 1].toNat = a) (hb : s[m + 2].toNat = b) (hc : s[m + 3].toNat = c) {la : List Rec} {n1 : Nat} (h : recsS (tl s) a (m + 4) = some (la, n1)) (h' : recsS (tl s) b n1 = none) : tailS (tl s) hd (m + 1) = none := tail_of h1 h2 h3 ha hb hc (by unfold listsS; rw [h, Option.bind_some]; simp only; rw [h']; rfl)
theorem tail_r2 (h1 : m + 1 < s.size) (h2 : m + 2 < s.size) (h3 : m + 3 < s.size) (ha : s[m + 1].toNat = a) (hb : s[m + 2].toNat = b) (hc : s[m + 3].toNat = c) {la lb : List Rec} {n1 n2 : Nat} (h : recsS (tl s) a (m + 4) = some (la, n1)) (h' : recsS (tl s) b n1 = some (lb, n2)) (h'' : recsS (tl s) c n2 = none) : tailS (tl s) hd (m + 1) = none :=
  tail_of h1 h2 h3 ha hb hc (by unfold listsS; rw [h, Option.bind_some]; simp only; rw [h', Option.bind_some]; simp only; rw [h'']; rfl)
theorem tail_end (h1 : m + 1 < s.size) (h2 : m + 2 < s.size) (h3 : m + 3 < s.size) (ha : s[m + 1].toNat = a) (hb : s[m + 2].toNat = b) (hc : s[m + 3].toNat = c) {la lb lc : List Rec} {n1 n2 n3 : Nat} (ka : a ≤ 10) (kb : b ≤ 10) (kc : c ≤ 10) (h : recsS (tl s) a (m + 4) = some (la, n1)) (h' : recsS (tl s) b n1 = some (lb, n2)) (h'' : recsS (tl s) c n2 = some (lc, n3)) : tailS (tl s) hd (m + 1) = if n3 = s.size then some (hd la lb lc) else none := by
  rw [tailS_is h1 h2 h3 ha hb hc, if_pos ka, if_pos kb, if_pos kc]
  unfold listsS
  rw [h, Option.bind_some]
  simp only
  rw [h', Option.bind_some]
  simp only
  rw [h'', Option.bind_some]
  by_cases e : n3 = s.size
  · rw [if_pos e, if_pos (by rw [tl_length]; exact e)]
  · rw [if_neg e, if_neg (by rw [tl_length]; exact e)]
end
theorem rl_step {w wr w1 w2 : World} {rs : List Rec} {r : Rec} {v v' : Value} {o o2 : Obj}
    (hown : wr.ownsRow w.heap.size 71 5 v rs.length (rcells rs)) (hb : Below w.heap.size w wr) (hb1 : Below wr.heap.size wr w1)
    (hown' : w2.ownsRow w.heap.size 71 5 v' (rs.length + 1) (rcells rs ++ rc1 r)) (hg : ((w1.alloc o).alloc o2).grownBy w2 v.ownBlock) :
    w2.ownsRow w.heap.size 71 5 v' (rs ++ [r]).length (rcells (rs ++ [r])) ∧ Below w.heap.size w w2 := by
  have hge := own_ge5 hown
  have hB := hb.trans (hb1.mono hb.size)
  refine ⟨?_, ((hB.alloc hB.size o).alloc (by have := hB.size; simp; omega) o2).grown hg (by have := hB.size; simp; omega) hge⟩
  rw [rcells_append]
  simpa [rcells] using hown'

theorem Lst.below {lo hi : Nat} {W W' : World} {v : Value} {rs : List Rec} (h : Lst lo hi W v rs) (hb : Below W.heap.size W W') : Lst lo hi W' v rs := ⟨h.1.below hb, h.2⟩

end Go.Proofs.YtefdokkadckbbaaGreatDoor
