/- W1 Pq Qj -/
import Derived.Test.YtefdokkadckbbaaGreatDoorZ43
import Derived.Test.YtefdokkadckbbaaGreatDoorZ40
import Derived.Test.YtefdokkadckbbaaGreatDoorZ46
section
namespace Go.Proofs.YtefdokkadckbbaaGreatDoor.W
open Go.RowKit
theorem dotJoin_first (x : List UInt8) : dotJoin [x] = x := Lib.join_one x [46]
theorem low_nodot {c : UInt8} (h : low c = true) : ¬ c.toNat = 46 := by
 unfold low at h
 have := of_decide_eq_true h
 omega
theorem cutAcc_word : ∀ (x cur r : List UInt8), x.all low = true → cutAcc cur (x ++ r) = cutAcc (cur ++ x) r
 | [], cur, r, _ => by simp
 | c :: x, cur, r, h => by
  rw [List.all_cons, Bool.and_eq_true] at h
  rw [List.cons_append, cutAcc, if_neg (low_nodot h.1), cutAcc_word x (cur ++ [c]) r h.2]
  simp
theorem dotJoin_cons (x y : List UInt8) (r : List (List UInt8)) : dotJoin (x :: y :: r) = x ++ 46 :: dotJoin (y :: r) := by
 unfold dotJoin
 rw [Lib.join_cons, Lib.join_cons]
 simp [Lib.joinTail]
theorem lab_low {x : List UInt8} (h : labOk x = true) : x.all low = true := by unfold labOk at h; rw [Bool.and_eq_true] at h; exact h.2
theorem lab_ne {x : List UInt8} (h : labOk x = true) : x ≠ [] := by
 intro e; subst e; unfold labOk at h; simp at h
theorem cutAcc_join : ∀ (l : List (List UInt8)), l ≠ [] → l.all labOk = true → cutAcc [] (dotJoin l) = l
 | [], h, _ => absurd rfl h
 | [x], _, h => by
  have hx := lab_low (by simpa using h)
  rw [dotJoin_first]
  have := cutAcc_word x [] [] hx
  rw [List.append_nil] at this
  rw [this]; rfl
 | x :: y :: r, _, h => by
  rw [List.all_cons, Bool.and_eq_true] at h
  rw [dotJoin_cons, cutAcc_word x [] _ (lab_low h.1), cutAcc, if_pos (by decide), cutAcc_join (y :: r) (by simp) h.2]
  rfl
theorem labs_join {l : List (List UInt8)} (h : l.all labOk = true) : labs (dotJoin l) = l := by
 by_cases e : l = []
 ·subst e; rfl
 ·unfold labs
  have hne : dotJoin l ≠ [] := by
   cases l with
   | nil => exact absurd rfl e
   | cons x r =>
    rw [List.all_cons, Bool.and_eq_true] at h
    intro e2
    unfold dotJoin at e2
    rw [Lib.join_cons] at e2
    exact lab_ne h.1 (List.append_eq_nil_iff.1 e2).1
  rw [if_neg hne, cutAcc_join l e h]
theorem nameOk_join {l : List (List UInt8)} (h5 : l.length ≤ 5) (h : l.all labOk = true) : nameOk (tl (mk (dotJoin l))) = true := by
 rw [tl_mk']
 unfold nameOk
 rw [labs_join h, h, decide_eq_true h5]; rfl
section
variable {t u : List UInt8}
end
section
variable {T : List UInt8}
end
theorem nameS_ok {t : List UInt8} {n : Nat} {x : List UInt8 × Nat} (h : nameS t n = some x) : nameOk (tl (mk x.1)) = true := by
 unfold nameS at h
 simp only [Option.bind_eq_some_iff] at h
 obtain ⟨a, ha, h⟩ := h
 split at h
 ·rename_i h5
  simp only [Option.some.injEq] at h
  subst h
  exact nameOk_join h5 (lblS_len t n n _ _ ha).2.1
 ·cases h
theorem numS_in' {t : List UInt8} {lo hi : Int} {n : Nat} {x : Int × Nat} (h : numS t lo hi n = some x) : lo ≤ x.1 ∧ x.1 ≤ hi := by
 unfold numS at h
 simp only [Option.bind_eq_some_iff] at h
 obtain ⟨a, _, h⟩ := h
 split at h
 ·rename_i hc; simp only [Option.some.injEq] at h; subst h; exact hc
 ·cases h
theorem byteS_in {t : List UInt8} {n : Nat} {x : Int × Nat} (h : byteS t n = some x) : 0 ≤ x.1 ∧ x.1 ≤ 255 := by
 unfold byteS at h
 simp only [Option.map_eq_some_iff] at h
 obtain ⟨b, _, rfl⟩ := h
 have := b.toNat_lt
 simp only
 omega
theorem twoS_in {t : List UInt8} {n : Nat} {x : Int × Nat} (h : twoS t n = some x) : 0 ≤ x.1 ∧ x.1 ≤ 65535 := by
 unfold twoS at h
 simp only [Option.bind_eq_some_iff, Option.map_eq_some_iff] at h
 obtain ⟨a, ha, b, hb, rfl⟩ := h
 have := byteS_in ha
 have := byteS_in hb
 simp only
 omega
theorem recS_ok {t : List UInt8} {n : Nat} {x : Rec × Nat} (h : recS t n = some x) : recOk x.1 = true := by
 unfold recS at h
 simp only [Option.bind_eq_some_iff] at h
 obtain ⟨a, ha, ty, hty, ttl, _, h⟩ := h
 have hnm := nameS_ok ha
 have h14 := numS_in' hty
 split at h
 case isFalse => cases h
 rename_i httl
 unfold saidS at h
 by_cases h1 : ty.1 = 1
 ·rw [if_pos h1] at h
  simp only [Option.map_eq_some_iff] at h
  obtain ⟨b, hb, rfl⟩ := h
  unfold recOk saysOk
  simp only [hnm, decide_eq_true httl, Bool.true_and]
  rw [if_pos h1, decide_eq_true (byteS_in hb)]
  rfl
 ·rw [if_neg h1] at h
  by_cases h2 : ty.1 = 2 ∨ ty.1 = 3
  ·rw [if_pos h2] at h
   simp only [Option.map_eq_some_iff] at h
   obtain ⟨b, hb, rfl⟩ := h
   unfold recOk saysOk
   simp only [hnm, decide_eq_true httl, Bool.true_and]
   rw [if_neg h1, if_pos h2, nameS_ok hb]
   rfl
  ·rw [if_neg h2] at h
   simp only [Option.some.injEq] at h
   subst h
   unfold recOk saysOk
   simp only [hnm, decide_eq_true httl, Bool.true_and]
   rw [if_neg h1, if_neg h2, if_pos (by omega)]
   rfl
theorem recsS_ok {t : List UInt8} : ∀ (k n : Nat) {x : List Rec × Nat}, recsS t k n = some x → x.1.all recOk = true ∧ x.1.length = k
 | 0, n, x, h => by simp only [recsS, Option.some.injEq] at h; subst h; exact ⟨rfl, rfl⟩
 | k + 1, n, x, h => by
  simp only [recsS, Option.bind_eq_some_iff, Option.map_eq_some_iff] at h
  obtain ⟨a, ha, l, hl, rfl⟩ := h
  obtain ⟨h1, h2⟩ := recsS_ok k a.2 hl
  refine ⟨?_, by simp [h2]⟩
  simp only [List.all_cons, recS_ok ha, h1, Bool.and_self]
theorem listOk_of {t : List UInt8} {k : Int × Nat} {n n' : Nat} {x : List Rec × Nat} (hk : numS t 0 10 n' = some k) (h : recsS t k.1.toNat n = some x) : listOk x.1 = true := by
 obtain ⟨h1, h2⟩ := recsS_ok _ _ h
 have := numS_in' hk
 unfold listOk
 rw [h1, Bool.and_true]
 exact decide_eq_true (by omega)
theorem msgS_ok {t : List UInt8} {m : Msg} (h : msgS t = some m) : msgOk m = true := by
 unfold msgS at h
 split at h
 case isFalse => cases h
 simp only [Option.bind_eq_some_iff] at h
 obtain ⟨id, i1, rep, i2, code, i3, nm, i4, ty, i5, ka, i6, kb, i7, kc, i8, la, i9, lb, i10, lc, i11, h⟩ := h
 split at h
 case isFalse => cases h
 simp only [Option.some.injEq] at h
 subst h
 unfold msgOk numsOk
 simp only [decide_eq_true (twoS_in i1), decide_eq_true (numS_in' i3), decide_eq_true (numS_in' i5), nameS_ok i4, listOk_of i6 i9, listOk_of i7 i10, listOk_of i8 i11, Bool.and_self]
end Go.Proofs.YtefdokkadckbbaaGreatDoor.W
end
section
namespace Go.Proofs.YtefdokkadckbbaaGreatDoor
open Go.RowKit
set_option maxRecDepth 100000
theorem msgS_asks {t : List UInt8} {m : Msg} (h : msgS t = some m) (hq : t[2]? = some 113) : m.reply = false := by
 unfold msgS at h
 split at h
 case isFalse => cases h
 simp only [Option.bind_eq_some_iff] at h
 obtain ⟨id, e0, rep, e1, code, e2, nm, e3, ty, e4, ka, ha, kb, hb, kc, hc, la, hla, lb, hlb, lc, hlc, h⟩ := h
 split at h
 case isFalse => cases h
 simp only [Option.some.injEq] at h
 subst h
 show rep.1 = false
 have h2 : id.2 = 2 := by
  unfold twoS at e0
  simp only [Option.bind_eq_some_iff, Option.map_eq_some_iff] at e0
  obtain ⟨a, ha, b, hb, rfl⟩ := e0
  obtain ⟨_, _, rfl⟩ := byteS_some ha
  obtain ⟨_, _, rfl⟩ := byteS_some hb
  rfl
 rw [h2] at e1
 unfold kindS byteS at e1
 rw [hq] at e1
 simp at e1
 rw [← e1]
theorem ask_ok {t : List UInt8} {m : Msg} {id : Int} (h : askOk (msgS t) = some m) (hq : qidS t = some id) : m.reply = false ∧ (0 ≤ m.id ∧ m.id ≤ 65535) ∧ nameOk (tl m.name) = true ∧ (1 ≤ m.ty ∧ m.ty ≤ 3) := by
 cases hm : msgS t with
 | none => rw [hm] at h; cases h
 | some m' =>
  rw [hm] at h
  unfold askOk at h
  simp only at h
  split at h
  ·rename_i hc
   simp only [Option.some.injEq] at h
   subst h
   have hok := W.msgS_ok hm
   unfold msgOk numsOk at hok
   simp only [Bool.and_eq_true, decide_eq_true_eq] at hok
   refine ⟨msgS_asks hm ?_, hok.1.1.1.1.1.1, hok.1.1.1.2, hc.2.2.2.2⟩
   match t, hq with
   | a :: b :: c :: d :: r, hq =>
    simp only [qidS] at hq
    split at hq
    ·rename_i h113; simp [h113]
    ·cases hq
  ·cases h
theorem ask_eq_some {s : Rs} {b : ByteArray} {id : Int} {m : Msg} (h : askOk (msgS (tl b)) = some m) : askS s b id = { (workS { s with asked := s.asked + 1 } (newTk s.asked m)).1 with tasks := s.tasks ++ (workS { s with asked := s.asked + 1 } (newTk s.asked m)).2 } := by
 unfold askS; rw [h]
theorem ask_eq_none {s : Rs} {b : ByteArray} {id : Int} (h : askOk (msgS (tl b)) = none) : askS s b id = { s with asked := s.asked + 1, replies := s.replies ++ [(s.asked, rB id 1 ⟨#[]⟩ 0)] } := by
 unfold askS; rw [h]
end Go.Proofs.YtefdokkadckbbaaGreatDoor
end
section
namespace Go.Proofs.YtefdokkadckbbaaGreatDoor
open Go.RowKit
set_option maxRecDepth 100000
section
variable {W w' : World} {F : Nat → Prop} {y : Nat} {s : Rs} {ps : List (Rb × Tk)} {vh vt vs vr : Value} {rid : Int}
theorem RRc.tell (h : RRc W F y s ps vh vt vs vr rid) {tb : Nat} {Q : List (Int × ByteArray)} (hne : tb ∉ ps.map tbOf)
  (hR : RepR (fun k => k = y ∨ vr.ownBlock = some k) W w' y tb (rmk s rid vh vs) (ps.map tbOf) vr Q) :
  ∃ F' vt' vr', RRc w' F' y { s with replies := Q } ps vh vt' vs vr' rid ∧ Keeps F W w' ∧ ∀ k, F' k → F k ∨ W.heap.size ≤ k := by
 obtain ⟨vt', g, c, h1, h2, h3, h4, h5⟩ := hR
 have ho : others tb (ps.map tbOf) = ps.map tbOf := List.filter_eq_self.2 fun b hb => by
  simp only [bne_iff_ne, ne_eq]
  rintro rfl
  exact hne hb
 rw [ho] at h3
 have hkf : ∀ (k : Nat) (c : Array Value) (e : TypeId), e ≠ 163 → e ≠ 66 → W.heap[k]? = some (.cells c e (0, 0)) → w'.heap[k]? = W.heap[k]? := fun k c e e1 e4 hk => h4.block k (Array.getElem?_eq_some_iff.1 hk).1 (by
  rintro (rfl | h')
  ·exact kind_ne hk h.res e1 rfl
  ·exact own_far h.reps hk e4.symm h'.symm)
 obtain ⟨o1, o2, o3, o4, o5, o6⟩ := h.own
 have hK : Keeps F W w' := h4.mono fun k hk => by
  rcases hk with rfl | h'
  ·exact o1
  ·exact o5 k h'
 have hz := h4.size
 have h00 : 0 < W.heap.size := Nat.lt_of_le_of_lt (Nat.zero_le _) (h.lt y o1)
 refine ⟨fun k => F k ∨ (vt'.ownBlock = some k ∨ k = g), vt', _, ⟨h1, h.rid, own_same h.hint fun k e => ?_, ?_, own_same h.sent fun k e => ?_, h2, fun p hp => (h.task p hp).same fun k hk => ?_, h.nod, ⟨.inl o1, fun k e => .inl (o2 k e), fun k e => .inr (.inl e), fun k e => .inl (o4 k e), fun k e => .inr (.inr ?_), fun p hp k e => .inl (o6 p hp k e)⟩, ?_, ?_⟩, hK, ?_⟩
 ·obtain ⟨cc, hc⟩ := own_blk h.hint e
  exact hkf k _ 3 (by decide) (by decide) hc
 ·rw [map_tb]
  have := own_low h3 (Nat.zero_le _)
  rwa [List.length_map] at this
 ·obtain ⟨cc, hc⟩ := own_blk h.sent e
  exact hkf k _ 105 (by decide) (by decide) hc
 ·have hP := h.task p hp
  obtain ⟨_, _, _, _, _, _, _, _, _, _, _, _, p1⟩ := hP.task
  obtain ⟨cur, p2, _⟩ := hP.goals
  rcases hk with rfl | rfl | rfl | e
  ·exact hkf _ _ 220 (by decide) (by decide) p1
  ·exact hkf _ _ 222 (by decide) (by decide) p2
  ·exact hkf _ _ 226 (by decide) (by decide) hP.goal
  ·obtain ⟨c, hc⟩ := own_blk hP.row e
   exact hkf k _ 386 (by decide) (by decide) hc
 ·simpa [Value.ownBlock] using e.symm
 ·rintro k (hk | hk | rfl)
  ·exact Nat.lt_of_lt_of_le (h.lt k hk) hz
  ·exact (h3.lt k hk).2
  ·exact (h2.lt k rfl).2
 ·rintro (hk | hk | rfl)
  ·exact h.zero hk
  ·have := (h3.lt 0 hk).1; omega
  ·rcases h5 with h5 | h5
   ·exact h.zero (o5 0 h5)
   ·omega
 ·rintro k (hk | hk | rfl)
  ·exact .inl hk
  ·exact .inr (h3.lt k hk).1
  ·rcases h5 with h5 | h5
   ·exact .inl (o5 _ h5)
   ·exact .inr h5
theorem RRc.add {ta : Option Addr} {tc : Nat} (h : RRc W F y s ps vh (.slice ta ps.length tc) vs vr rid) {W5 : World} {tb gb g : Nat} {num id : Int} {nm : ByteArray} {ty : Int} {aa as_ am : Option Addr} {ca cs cm : Nat} (hb : Below W.heap.size W W5)
  (ht : W5.heap[tb]? = some (rtaskO num id nm ty (.slice aa 0 ca) (.slice as_ 0 cs) (.slice am 0 cm) (.slice (some ⟨gb, 0, none⟩) 1 1) 0 0 0 0 ⟨#[]⟩ 0 ⟨#[]⟩)) (hgb : W5.heap[gb]? = some (.cells #[.pointer (some ⟨g, 0, none⟩)] 222 (0, 0))) (hg : W5.heap[g]? = some (rgoalO nm ty (.slice none 0 0)))
  (hnew : W.heap.size ≤ tb ∧ W.heap.size ≤ gb ∧ W.heap.size ≤ g) :
  ∀ o w6 g6 c6, w6.ownsRow 0 217 1 (.slice (some ⟨g6, 0, none⟩) (ps.length + 1) c6) (ps.length + 1) ((ps.map fun p => Value.pointer (some ⟨p.1.tb, 0, none⟩)) ++ [.pointer (some ⟨tb, 0, none⟩)]) → Lies (W5.alloc o) w6 (.slice ta ps.length tc) g6 →
   w6.cell? ⟨y, 10, none⟩ = some (.slice ta ps.length tc) ∧ w6.frozen? ⟨y, 10, none⟩ = false ∧ ∃ F', RRc (w6.setCell ⟨y, 10, none⟩ (.slice (some ⟨g6, 0, none⟩) (ps.length + 1) c6)) F' y s (ps ++ [(⟨tb, gb, g, .slice none 0 0, []⟩, ⟨num, id, nm, ty, fun _ => 0, 0, 0⟩)]) vh (.slice (some ⟨g6, 0, none⟩) (ps.length + 1) c6) vs vr rid ∧
    Keeps F W (w6.setCell ⟨y, 10, none⟩ (.slice (some ⟨g6, 0, none⟩) (ps.length + 1) c6)) ∧ ∀ k, F' k → F k ∨ W.heap.size ≤ k := by
 intro o w6 g6 c6 r6 L6
 have hz := hb.size
 obtain ⟨o1, o2, o3, o4, o5, o6⟩ := h.own
 have hA : ∀ (k : Nat) (c : Array Value) (e : TypeId), e ≠ 217 → W5.heap[k]? = some (.cells c e (0, 0)) → w6.heap[k]? = some (.cells c e (0, 0)) := fun k c e he hk => by
  have lk : k < W5.heap.size := (Array.getElem?_eq_some_iff.1 hk).1
  refine (L6.1.block k (by simp; omega) fun e' => ?_).trans ((Below.heap_alloc W5 o k lk).trans hk)
  have h5 : W5.ownsRow 0 217 1 (.slice ta ps.length tc) ps.length (ps.map fun p => Value.pointer (some ⟨p.1.tb, 0, none⟩)) := own_same h.tasks fun j ej => hb.block j (h.tasks.lt j ej).2
  exact own_far h5 hk he.symm e'
 have hy5 : W5.heap[y]? = some (rresO vh s.en s.tr s.pa s.mx s.now rid s.asked (.slice ta ps.length tc) vs vr) := (hb.block y (h.lt y o1)).trans h.res
 have e6 := hA y _ 163 (by decide) hy5
 obtain ⟨V, hV⟩ : ∃ V, w6.setCell ⟨y, 10, none⟩ (.slice (some ⟨g6, 0, none⟩) (ps.length + 1) c6) = V := ⟨_, rfl⟩
 have hB : ∀ (k : Nat) (c : Array Value) (e : TypeId), e ≠ 217 → e ≠ 163 → W5.heap[k]? = some (.cells c e (0, 0)) → V.heap[k]? = some (.cells c e (0, 0)) := fun k c e h1 h2 hk => by
  rw [← hV]
  exact (Below.heap_setCell w6 ⟨y, 10, none⟩ _ k (kind_ne hk hy5 h2)).trans (hA k c e h1 hk)
 have hO : ∀ (k : Nat) (c : Array Value) (e : TypeId), e ≠ 217 → e ≠ 163 → W.heap[k]? = some (.cells c e (0, 0)) → V.heap[k]? = W.heap[k]? := fun k c e h1 h2 hk => (hB k c e h1 h2 ((hb.block k (Array.getElem?_eq_some_iff.1 hk).1).trans hk)).trans hk.symm
 have hyV : V.heap[y]? = some (rresO vh s.en s.tr s.pa s.mx s.now rid s.asked (.slice (some ⟨g6, 0, none⟩) (ps.length + 1) c6) vs vr) := by
  rw [← hV]
  have := heap_setCell_same w6 y 10 _ 163 (.slice (some ⟨g6, 0, none⟩) (ps.length + 1) c6) e6
  simpa using this
 have rV : V.ownsRow 0 217 1 (.slice (some ⟨g6, 0, none⟩) (ps.length + 1) c6) (ps.length + 1) ((ps.map fun p => Value.pointer (some ⟨p.1.tb, 0, none⟩)) ++ [.pointer (some ⟨tb, 0, none⟩)]) := by
  rw [← hV]
  refine own_same r6 fun k e => Below.heap_setCell _ _ _ _ ?_
  rintro rfl
  exact own_far r6 e6 (by decide) e.symm
 have hg6 : F g6 ∨ W.heap.size ≤ g6 := by
  rcases L6.2.1 with h' | ⟨h', _⟩
  ·exact .inl (o3 _ h')
  ·exact .inr (by simp at h'; omega)
 have hKV : Keeps F W V := by
  rw [← hV]
  exact (((keeps_of_below hb).alloc o).grown L6.1 (fun j e => .inl (o3 j e))).set (.inl o1) 10 _
 have h00 : 0 < W.heap.size := Nat.lt_of_le_of_lt (Nat.zero_le _) (h.lt y o1)
 have htV := hB tb _ 220 (by decide) (by decide) ht
 have hgbV := hB gb _ 222 (by decide) (by decide) hgb
 have hgV := hB g _ 226 (by decide) (by decide) hg
 have lold : ∀ p ∈ ps, ∀ k, p.1.has k → k < W.heap.size := fun p hp k hk => h.lt k (o6 p hp k hk)
 refine ⟨by rw [cell_blk e6]; rfl, frozen_of_row _ y 10 _ 163 e6, ?_⟩
 rw [hV]
 refine ⟨fun k => F k ∨ (k = g6 ∨ k = tb ∨ k = gb ∨ k = g), ⟨hyV, h.rid, own_same h.hint fun k e => ?_, ?_, own_same h.sent fun k e => ?_, own_same h.reps fun k e => ?_, fun p hp => ?_, ⟨?_, ?_, ?_⟩, ⟨.inl o1, fun k e => .inl (o2 k e), fun k e => .inr (.inl ?_), fun k e => .inl (o4 k e), fun k e => .inl (o5 k e), fun p hp k e => ?_⟩, ?_, ?_⟩, hKV, ?_⟩
 ·obtain ⟨cc, hc⟩ := own_blk h.hint e
  exact hO k _ 3 (by decide) (by decide) hc
 ·simpa using rV
 ·obtain ⟨cc, hc⟩ := own_blk h.sent e
  exact hO k _ 105 (by decide) (by decide) hc
 ·obtain ⟨cc, hc⟩ := own_blk h.reps e
  exact hO k _ 66 (by decide) (by decide) hc
 ·rcases List.mem_append.1 hp with hp | hp
  ·refine (h.task p hp).same fun k hk => ?_
   have hP := h.task p hp
   obtain ⟨_, _, _, _, _, _, _, _, _, _, _, _, p1⟩ := hP.task
   obtain ⟨cur, p2, _⟩ := hP.goals
   rcases hk with rfl | rfl | rfl | e
   ·exact hO _ _ 220 (by decide) (by decide) p1
   ·exact hO _ _ 222 (by decide) (by decide) p2
   ·exact hO _ _ 226 (by decide) (by decide) hP.goal
   ·obtain ⟨c, hc⟩ := own_blk hP.row e
    exact hO k _ 386 (by decide) (by decide) hc
  ·simp only [List.mem_singleton] at hp
   subst hp
   exact ⟨⟨aa, as_, am, ca, cs, cm, 1, 0, 0, ⟨#[]⟩, 0, ⟨#[]⟩, htV⟩, ⟨_, hgbV, rfl⟩, hgV, World.ownsRow_nil _ _ _ _, rfl, ⟨0, Nat.le_refl _, Nat.zero_le _, Nat.le_refl _, fun j a hj => by omega⟩⟩
 ·rw [List.map_append, List.nodup_append]
  refine ⟨h.nod.1, by simp, fun a ha b hb' => ?_⟩
  obtain ⟨p, hp, rfl⟩ := List.mem_map.1 ha
  simp only [List.map_cons, List.map_nil, List.mem_singleton] at hb'
  have := lold p hp p.1.tb (.inl rfl)
  omega
 ·rw [List.map_append, List.nodup_append]
  refine ⟨h.nod.2.1, by simp, fun a ha b hb' => ?_⟩
  obtain ⟨p, hp, rfl⟩ := List.mem_map.1 ha
  simp only [List.map_cons, List.map_nil, List.mem_singleton] at hb'
  have := lold p hp p.1.g (.inr (.inr (.inl rfl)))
  omega
 ·rw [List.pairwise_append]
  refine ⟨h.nod.2.2, by simp, fun p hp q hq k hk => ?_⟩
  simp only [List.mem_singleton] at hq
  subst hq
  simp [Value.ownBlock]
 ·simpa [Value.ownBlock] using e.symm
 ·rcases List.mem_append.1 hp with hp | hp
  ·exact .inl (o6 p hp k e)
  ·simp only [List.mem_singleton] at hp
   subst hp
   rcases e with e | e | e | e
   ·exact .inr (.inr (.inl e))
   ·exact .inr (.inr (.inr (.inl e)))
   ·exact .inr (.inr (.inr (.inr e)))
   ·simp [Value.ownBlock] at e
 ·rintro k (hk | rfl | rfl | rfl | rfl)
  ·exact Nat.lt_of_lt_of_le (h.lt k hk) hKV.size
  ·exact (rV.lt k rfl).2
  ·exact (Array.getElem?_eq_some_iff.1 htV).1
  ·exact (Array.getElem?_eq_some_iff.1 hgbV).1
  ·exact (Array.getElem?_eq_some_iff.1 hgV).1
 ·rintro (hk | rfl | rfl | rfl | rfl)
  ·exact h.zero hk
  ·rcases hg6 with h' | h'
   ·exact h.zero h'
   ·omega
  ·omega
  ·omega
  ·omega
 ·rintro k (hk | rfl | rfl | rfl | rfl)
  ·exact .inl hk
  ·exact hg6
  ·exact .inr hnew.1
  ·exact .inr hnew.2.1
  ·exact .inr hnew.2.2
end
theorem rdecode_parts (b : ByteArray) (w : World) : ∃ (er id : Int) (rp : Bool) (code : Int) (nm : ByteArray) (ty : Int) (na ns nn : Nat), (er = 0 ∨ er = 2) ∧ ((er = 2 ∨ code ≠ 0 ∨ 0 < na ∨ 0 < ns ∨ 0 < nn ∨ ty = 0 ∨ ty = 4) ∨ askOk (msgS (tl b)) ≠ none) ∧ (∀ m, askOk (msgS (tl b)) = some m → er = 0 ∧ m.id = id ∧ m.reply = rp ∧ code = 0 ∧ m.name = nm ∧ m.ty = ty ∧ na = 0 ∧ ns = 0 ∧ nn = 0) ∧
  Calls Tryz.prog 126 #[.string b] w fun e w' => Below w.heap.size w w' ∧ ∃ (aa as_ am : Option Addr) (ca cs cm : Nat), e = .returned (.tuple #[.agg #[.int .i64 id, .bool rp, .int .i64 code, .string nm, .int .i64 ty, .slice aa na ca, .slice as_ ns cs, .slice am nn cm], .int .i64 er]) := by
 have hD := Decode_ref b w
 cases hm : msgS (tl b) with
 | none =>
  refine ⟨2, 0, false, 0, ⟨#[]⟩, 0, 0, 0, 0, .inr rfl, .inl (.inl rfl), fun m h => (by cases h), hD.mono fun e w' h => ?_⟩
  rw [hm] at h
  exact ⟨h.1, none, none, none, 0, 0, 0, h.2⟩
 | some m =>
  refine ⟨0, m.id, m.reply, m.code, m.name, m.ty, m.answer.length, m.servers.length, m.more.length, .inl rfl, ?_, ?_, hD.mono fun e w' h => ?_⟩
  ·unfold askOk
   simp only
   split
   ·exact .inr (by simp)
   ·rename_i hc
    refine .inl (.inr ?_)
    have hok := W.msgS_ok hm
    unfold msgOk numsOk at hok
    simp only [Bool.and_eq_true, decide_eq_true_eq] at hok
    have ht := hok.1.1.1.1.2
    by_cases h1 : m.code = 0
    ·by_cases h2 : m.answer = []
     ·by_cases h3 : m.servers = []
      ·by_cases h4 : m.more = []
       ·have : ¬ (1 ≤ m.ty ∧ m.ty ≤ 3) := fun h => hc ⟨h1, h2, h3, h4, h⟩
        omega
       ·exact .inr (.inr (.inr (.inl (List.length_pos_iff.2 h4))))
      ·exact .inr (.inr (.inl (List.length_pos_iff.2 h3)))
     ·exact .inr (.inl (List.length_pos_iff.2 h2))
    ·exact .inl h1
  ·intro m' h
   unfold askOk at h
   simp only at h
   split at h
   ·rename_i hc
    simp only [Option.some.injEq] at h
    subst h
    exact ⟨rfl, rfl, rfl, hc.1, rfl, rfl, by rw [hc.2.1]; rfl, by rw [hc.2.2.1]; rfl, by rw [hc.2.2.2.1]; rfl⟩
   ·cases h
  ·rw [hm] at h
   obtain ⟨hb, va, vs, vm, b1, b2, he, h1, h2, h3, _⟩ := h
   obtain ⟨aa, ca, rfl⟩ := own_val' h1.1
   obtain ⟨as_, cs, rfl⟩ := own_val' h2.1
   obtain ⟨am, cm, rfl⟩ := own_val' h3.1
   exact ⟨hb, aa, as_, am, ca, cs, cm, he⟩
theorem qid_some {b : ByteArray} {id : Int} (h : qidS (tl b) = some id) : ∃ c0 c1 : Nat, 4 ≤ b.size ∧ c0 ≤ 255 ∧ c1 ≤ 255 ∧ id = (c0 : Int) + 256 * (c1 : Int) ∧ (∀ w, (Instr.index 9 (.string b) (.int .i64 0)).run Tryz.prog w = .ok (.int .u8 c0) w) ∧ (∀ w, (Instr.index 9 (.string b) (.int .i64 1)).run Tryz.prog w = .ok (.int .u8 c1) w) ∧ (∀ w, (Instr.index 9 (.string b) (.int .i64 2)).run Tryz.prog w = .ok (.int .u8 113) w) := by
 match hb : tl b, h with
 | x0 :: x1 :: x2 :: x3 :: r, h =>
  have hl := tl_length b
  rw [hb] at hl
  simp only [List.length_cons] at hl
  simp only [qidS] at h
  split at h
  ·rename_i h2
   simp only [Option.some.injEq] at h
   have hg : ∀ (i : Nat) (hi : i < b.size), (tl b)[i]? = some b[i] := fun i hi => by
    have : (tl b)[i]? = b.data.toList[i]? := rfl
    rw [this, Array.getElem?_toList]
    exact Array.getElem?_eq_getElem hi
   have g0 := hg 0 (by omega)
   have g1 := hg 1 (by omega)
   have g2 := hg 2 (by omega)
   rw [hb] at g0 g1 g2
   simp at g0 g1 g2
   refine ⟨x0.toNat, x1.toNat, by omega, by have := x0.toNat_lt; omega, by have := x1.toNat_lt; omega, by rw [← h]; omega, fun w => ?_, fun w => ?_, fun w => ?_⟩
   ·rw [run_index_string w 9 b .i64 0 u9, dif_pos ⟨by omega, by omega⟩, g0]; rfl
   ·rw [run_index_string w 9 b .i64 1 u9, dif_pos ⟨by omega, by omega⟩, g1]; rfl
   ·have e : (113 : Int) = (x2.toNat : Int) := by rw [h2]; rfl
    rw [run_index_string w 9 b .i64 2 u9, dif_pos ⟨by omega, by omega⟩, e, g2]; rfl
  ·cases h
end Go.Proofs.YtefdokkadckbbaaGreatDoor
end
