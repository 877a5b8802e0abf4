/- Rp -/
import Derived.Test.YtefdokkadckbbaaGreatDoorZ52
import Derived.Test.YtefdokkadckbbaaGreatDoorZ18
namespace Go.Proofs.YtefdokkadckbbaaGreatDoor
open Go.RowKit
set_option maxRecDepth 100000
def zeroOp : Value := .agg #[.int .i64 0, .int .i64 0, .int .i64 0, .int .i64 0, .bool false, .int .i64 0, .string ByteArray.empty, .int .i64 0, .slice none 0 0, .slice none 0 0, .slice none 0 0, .string ByteArray.empty, .slice none 0 0, .int .i64 0, .int .i64 0, .int .i64 0, .int .i64 0, .slice none 0 0]
theorem info33 : (Tryz.prog.info? 33).map (fun i => (i.zero, i.size, i.bytes)) = some (some zeroOp, 18, 240) := by kernel_rfl
theorem u22 : Tryz.prog.underlying 22 = some (.slice 33) := by kernel_rfl
def opcs (qs : List OpR) : List Value := qs.flatMap opc
theorem opc_len (p : OpR) : (opc p).length = 18 := rfl
theorem opcs_more (qs : List OpR) (p : OpR) : opcs (qs ++ [p]) = opcs qs ++ opc p := by simp [opcs]
theorem opc_one (p : OpR) : ∀ u ∈ opc p, u.oneCell' = true := by
 intro u hu
 simp only [opc, List.mem_cons, List.not_mem_nil, or_false] at hu
 rcases hu with rfl | rfl | rfl | rfl | rfl | rfl | rfl | rfl | rfl | rfl | rfl | rfl | rfl | rfl | rfl | rfl | rfl | rfl <;> rfl
theorem opcs_get {qs : List OpR} {j : Nat} {p : OpR} (h : qs[j]? = some p) {k : Nat} (hk : k < 18) : (opcs qs)[j * 18 + k]? = (opc p)[k]? := by
 induction qs generalizing j with
 | nil => simp at h
 | cons q r ih =>
  have e : opcs (q :: r) = opc q ++ opcs r := rfl
  rw [e]
  cases j with
  | zero =>
   simp at h
   subst h
   rw [List.getElem?_append_left (by rw [opc_len]; omega)]
   congr 1
   omega
  | succ j =>
   simp at h
   rw [List.getElem?_append_right (by rw [opc_len]; omega), opc_len, ← ih h]
   congr 1
   omega
theorem ops_own {w : World} {base : Nat} {a : Option Addr} {c : Nat} {qs : List OpR} (h : w.ownsRow base 33 18 (.slice a qs.length c) qs.length (opcs qs)) (j : Nat) (p : OpR) (hj : qs[j]? = some p) : ∃ g o, a = some ⟨g, o, none⟩ ∧ g < w.heap.size ∧ OpAt w g (o + j * 18) p := by
 obtain ⟨_, ⟨h1, h2⟩ | ⟨g, cap, cur, hv, _, hg, _, _, hsz, ht⟩⟩ := h
 ·obtain ⟨hl, _⟩ := List.getElem?_eq_some_iff.1 hj
  omega
 ·simp only [Value.slice.injEq] at hv
  obtain ⟨rfl, _, rfl⟩ := hv
  refine ⟨g, 0, rfl, (Array.getElem?_eq_some_iff.1 hg).1, opAt_of fun k hk => ?_⟩
  have h3 := opcs_get hj hk
  have hjl : j < qs.length := (List.getElem?_eq_some_iff.1 hj).1
  rw [← ht, List.getElem?_take_of_lt (by omega)] at h3
  rw [cell_blk hg, ← h3]
  simp
structure KeptQ (w wr : World) (ps : List OpR) (k : Nat) (l : Value) : Prop where
 low : Below w.heap.size w wr
 ex : ∃ (a : Option Addr) (c : Nat) (qs : List OpR), l = .slice a qs.length c ∧ wr.ownsRow w.heap.size 33 18 l qs.length (opcs qs) ∧ (∀ q ∈ qs, q ∈ ps ∧ q.kind ≠ 5) ∧ qs.length ≤ k
structure AskOp0 (w : World) (p : OpR) : Prop where
 text : p.s.size ≤ 1048576
 nums : ∃ hs : List Int, p.hn = hs.length ∧ NumSl w (.slice p.ha p.hn p.hc) hs ∧ NumLow w.heap.size p.ha hs ∧ hs.length ≤ 1048576
set_option maxHeartbeats 4000000 in
theorem Asks_any (a : Option Addr) (c : Nat) (ps : List OpR) (w : World) (hG : Good w) (hN : ps.length ≤ 1048576)
  (hps : ∀ (j : Nat) (p : OpR), ps[j]? = some p → ∃ g o, a = some ⟨g, o, none⟩ ∧ g < w.heap.size ∧ OpAt w g (o + j * 18) p ∧ AskOp0 w p) :
  Calls Tryz.prog 5 #[.slice a ps.length c] w fun e w' => e = .returned (.bool true) ∧ Below w.heap.size w w' := by
 have HP : Hid (∀ (j : Nat) (p : OpR), ps[j]? = some p → ∃ g o, a = some ⟨g, o, none⟩ ∧ g < w.heap.size ∧ OpAt w g (o + j * 18) p ∧ AskOp0 w p) := hps
 have HG := hid hG
 clear hps hG
 obtain ⟨k0, hk0, hx0, hx1, hx2⟩ := info_parts info33
 have hu22 := u22
 go_enter Tryz.func5, Tryz.ntmps5
 go_wp2
 go_loopw [3, 4] (fun l i wr => ∃ k : Nat, k ≤ ps.length ∧ i = .int .i64 k ∧ KeptQ w wr ps k l) (fun _ i _ => ps.length - (intOf i).toNat)
 case atStart => exact ⟨0, Nat.zero_le _, rfl, Below.refl _ _, none, 0, [], rfl, World.ownsRow_nil _ _ _ _, (fun q hq => by cases hq), Nat.le_refl _⟩
 case round =>
  obtain ⟨k, hk, rfl, hb, la, lc, qs, rfl, hown, hqs, hql⟩ := hrel
  by_cases hlt : k < ps.length
  ·obtain ⟨p, hp⟩ : ∃ p, ps[k]? = some p := ⟨ps[k], List.getElem?_eq_getElem hlt⟩
   obtain ⟨g, o, rfl, hg, hat, hs⟩ := HP.out k p hp
   have HM := hid (List.mem_of_getElem? hp)
   clear hp hs
   have hatr := hat.below hb hg
   obtain ⟨c0, c1, c2, c3, c4, c5, c6, c7, c8, c9, c10, c11, c12, c13, c14, c15, c16, c17⟩ := hatr
   clear hat
   have HB := hid hb
   have HQ := hid hqs
   clear hb hqs
   by_cases hk5 : p.kind = 5
   ·have HK : KeptQ w wr ps (k + 1) (.slice la qs.length lc) := ⟨HB.out, la, lc, qs, rfl, hown, HQ.out, by omega⟩
    have HK := hid HK
    clear hown
    go_wp2
    go_roundw
    case rel => exact ⟨k + 1, hlt, by go_num, HK.out⟩
    case measure => simp [intOf]; omega
   ·go_wp2_with (first
     | (at_builtin; refine wpList_append_two _ rfl _ _ 22 rfl w.heap.size 33 k0 zeroOp 18 240 hu22 hk0 hx0 hx1 hx2 rfl (.slice la qs.length lc) _ _ rfl (hown.alloc _) ⟨wr.heap.size, 0, none⟩ 1 1 (opc p) rfl rfl (World.news_of_block (Go.heap_alloc_new _ _)) (opc_one p) (by decide) (by unfold maxLen; omega) (by omega) (by have := HB.out.size; simp; omega) ?_))
    intro g1 d1 w1 r1 o1 A1
    rw [← opcs_more] at r1
    have HK : KeptQ w w1 ps (k + 1) (.slice (some ⟨g1, 0, none⟩) (qs.length + 1) d1) := by
     refine ⟨?_, some ⟨g1, 0, none⟩, d1, qs ++ [p], by simp, by simpa using r1, fun q hq => ?_, by simp; omega⟩
     ·have hb := HB.out
      have hz := A1.1.size
      refine hb.trans ⟨A1.1.os, A1.1.tape, A1.1.output, by simp at hz; omega, fun j hj => ?_⟩
      rw [A1.1.block j (by simp; have := hb.size; omega) (fun e => by have := hown.lt j e.symm; omega), Below.heap_alloc _ _ _ (by have := hb.size; omega)]
     ·rcases List.mem_append.1 hq with hq | hq
      ·exact HQ.out q hq
      ·simp only [List.mem_singleton] at hq
       subst hq
       exact ⟨HM.out, hk5⟩
    have HK := hid HK
    clear r1 o1 A1 hown c0 c1 c2 c3 c4 c5 c6 c7 c8 c9 c10 c11 c12 c13 c14 c15 c16 c17
    go_wp2
    go_roundw
    case rel => exact ⟨k + 1, hlt, by go_num, HK.out⟩
    case measure => simp [intOf]; omega
  ·have HC := hid (plays_asks la lc qs wr (good_low HG.out hb) (by omega) (fun j q hj => by
    obtain ⟨g, o, h1, h2, h3⟩ := ops_own hown j q hj
    obtain ⟨h4, h5⟩ := hqs q (List.mem_of_getElem? hj)
    obtain ⟨i, hi⟩ := List.getElem?_of_mem h4
    obtain ⟨_, _, _, _, _, h6⟩ := HP.out i q hi
    obtain ⟨hs, n1, n2, n3, n4⟩ := h6.nums
    exact ⟨g, o, h1, h2, h3, h5, h6.text, hs, n1, n2.below hb, fun ad e1 e2 => Nat.lt_of_lt_of_le (n3 ad e1 e2) hb.size, n4⟩))
   have HB := hid hb
   clear hb hqs hown
   go_wp2_with (go_at_call 13; refine HC.out.mono ?_; rintro e w' ⟨rfl, hb'⟩)
   go_ret
   exact ⟨rfl, HB.out.trans (hb'.mono HB.out.size)⟩
end Go.Proofs.YtefdokkadckbbaaGreatDoor
