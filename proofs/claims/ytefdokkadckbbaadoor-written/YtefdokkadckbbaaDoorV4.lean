/- Written. -/
import Derived.Test.YtefdokkadckbbaaDoorV3
namespace Go.Proofs.YtefdokkadckbbaaDoor
open Go.RowKit
set_option maxRecDepth 100000

theorem msg_short {m : Msg} (h : msgOk m = true) (hn : m.answer.length + m.servers.length + m.more.length ≤ 6) : (msgW m).length ≤ 1000 := by
  unfold msgOk at h
  simp only [Bool.and_eq_true] at h
  obtain ⟨⟨⟨⟨_, h1⟩, h2⟩, h3⟩, h4⟩ := h
  have k1 := nameW_length _ h1
  have kl : ∀ l : List Rec, l.all recOk = true → (listW l).length ≤ 75 * l.length := by
    intro l
    induction l with
    | nil => intro _; simp [listW]
    | cons r q ih =>
      intro hl
      rw [List.all_cons, Bool.and_eq_true] at hl
      have a1 := recW_length r hl.1
      have a2 := ih hl.2
      unfold listW at a2 ⊢
      rw [List.map_cons, List.flatten_cons, List.length_append, List.length_cons]
      omega
  have k2 := kl _ (listOk_parts h2).2
  have k3 := kl _ (listOk_parts h3).2
  have k4 := kl _ (listOk_parts h4).2
  unfold msgW
  simp only [List.length_append, List.length_cons, List.length_nil]
  omega
theorem lie_ok {id cd ty : Int} {nm : ByteArray} {la ls lm : List Rec} (hid : 0 ≤ id ∧ id ≤ 65535) (hcd : 0 ≤ cd ∧ cd ≤ 3) (hty : 0 ≤ ty ∧ ty ≤ 4) (hn : nameOk (tl nm) = true) (ha : la.all recOk = true) (hs : ls.all recOk = true) (hm : lm.all recOk = true) (h6 : la.length + ls.length + lm.length ≤ 6) :
    msgOk ⟨id, true, cd, nm, ty, la, ls, lm⟩ = true := by
  have a1 : la.length ≤ 10 := by omega
  have a2 : ls.length ≤ 10 := by omega
  have a3 : lm.length ≤ 10 := by omega
  unfold msgOk numsOk listOk
  simp only [decide_eq_true hid, decide_eq_true hcd, decide_eq_true hty, decide_eq_true a1, decide_eq_true a2, decide_eq_true a3, hn, ha, hs, hm, Bool.and_self]
theorem small_ok {l : List Rec} (h : l.all recOk = true) : Small l := fun j r hj => by
  have := List.all_eq_true.1 h r (List.mem_of_getElem? hj)
  unfold recOk at this
  simp only [Bool.and_eq_true] at this
  have h1 := nameOk_size _ this.1.1
  rw [tl_length] at h1
  refine ⟨by omega, ?_⟩
  have hs := this.2
  unfold saysOk at hs
  split at hs
  · rw [Bool.and_eq_true] at hs
    have := List.isEmpty_iff.1 hs.2
    have : r.target.size = 0 := by rw [← tl_length, this]; rfl
    omega
  · split at hs
    · rw [Bool.and_eq_true] at hs
      have := nameOk_size _ hs.2
      rw [tl_length] at this
      omega
    · split at hs
      · rw [Bool.and_eq_true] at hs
        have := List.isEmpty_iff.1 hs.2
        have : r.target.size = 0 := by rw [← tl_length, this]; rfl
        omega
      · cases hs
theorem smallM_ok {m : Msg} (h : msgOk m = true) : SmallM m := by
  unfold msgOk at h
  simp only [Bool.and_eq_true] at h
  obtain ⟨⟨⟨⟨_, h1⟩, h2⟩, h3⟩, h4⟩ := h
  have k1 := nameOk_size _ h1
  rw [tl_length] at k1
  exact ⟨by omega, small_ok (listOk_parts h2).2, small_ok (listOk_parts h3).2, small_ok (listOk_parts h4).2⟩
theorem lens_ok {m : Msg} (h : msgOk m = true) : m.answer.length ≤ 10 ∧ m.servers.length ≤ 10 ∧ m.more.length ≤ 10 := by
  unfold msgOk at h
  simp only [Bool.and_eq_true] at h
  obtain ⟨⟨⟨⟨_, h1⟩, h2⟩, h3⟩, h4⟩ := h
  exact ⟨(listOk_parts h2).1, (listOk_parts h3).1, (listOk_parts h4).1⟩

/-- A message of well-formed records that lies in memory. -/
def MsgV (w : World) (m : Msg) (va vs vm : Value) : Prop := RecSl w va m.answer ∧ RecSl w vs m.servers ∧ RecSl w vm m.more
theorem MsgV.below {w w' : World} {m : Msg} {va vs vm : Value} (h : MsgV w m va vs vm) (hb : Below w.heap.size w w') : MsgV w' m va vs vm := ⟨h.1.below hb, h.2.1.below hb, h.2.2.below hb⟩
theorem MsgV.shape {w : World} {m : Msg} {va vs vm : Value} (h : MsgV w m va vs vm) : (∃ a c, va = .slice a m.answer.length c) ∧ (∃ a c, vs = .slice a m.servers.length c) ∧ (∃ a c, vm = .slice a m.more.length c) := by
  obtain ⟨⟨a, c, h1, _⟩, ⟨a', c', h2, _⟩, ⟨a'', c'', h3, _⟩⟩ := h
  exact ⟨⟨a, c, h1⟩, ⟨a', c', h2⟩, ⟨a'', c'', h3⟩⟩
def aggM (m : Msg) (va vs vm : Value) : Value := .agg #[.int .i64 m.id, .bool m.reply, .int .i64 m.code, .string m.name, .int .i64 m.ty, va, vs, vm]
/-- Encode of a well-formed message. -/
theorem enc_ok {m : Msg} (hok : msgOk m = true) {va vs vm : Value} {w : World} (hG : Good w) (hv : MsgV w m va vs vm) :
    Calls Tryd.prog 6 #[.agg #[.int .i64 m.id, .bool m.reply, .int .i64 m.code, .string m.name, .int .i64 m.ty, va, vs, vm]] w fun e w' => e = .returned (.tuple #[.string (mk (msgW m)), .int .i64 0]) ∧ Below w.heap.size w w' := by
  refine (sEncode_any m va vs vm w hG (smallM_ok hok) hv.1 hv.2.1 hv.2.2).mono fun e w' h => ⟨?_, h.2⟩
  rw [h.1, show encS m = mk (msgW m) by unfold encS; rw [if_pos hok], show encE m = 0 by unfold encE; rw [if_pos hok]]
theorem dec_no {s : ByteArray} (hs : s.size ≤ 9223372036854775807) (h : msgS (tl s) = none) (w : World) :
    Calls Tryd.prog 7 #[.string s] w fun e w' => e = .returned (.tuple #[zMsg, .int .i64 2]) ∧ Below w.heap.size w w' :=
  (sDecode_any s w hs).mono fun e w' hd => by rw [h] at hd; exact ⟨hd.2, hd.1⟩
/-- Its lists are rows from block b on. -/
def MsgO (b : Nat) (w : World) (m : Msg) (va vs vm : Value) : Prop := w.ownsRow b 40 5 va m.answer.length (rcells m.answer) ∧ w.ownsRow b 40 5 vs m.servers.length (rcells m.servers) ∧ w.ownsRow b 40 5 vm m.more.length (rcells m.more)
theorem MsgO.v {b : Nat} {w : World} {m : Msg} {va vs vm : Value} (h : MsgO b w m va vs vm) : MsgV w m va vs vm := ⟨row_recs h.1, row_recs h.2.1, row_recs h.2.2⟩
theorem MsgO.fill {b Q : Nat} {w : World} {m : Msg} {va vs vm v0 v1 v2 v3 v4 v5 v6 v7 : Value} (h : MsgO b w m va vs vm) (hQ : Q < b) : MsgV (fill8 Q v0 v1 v2 v3 v4 v5 v6 v7 w) m va vs vm :=
  ⟨row_recs (fill_row (R := Q) (own_lower h.1 hQ) (Nat.le_refl Q)), row_recs (fill_row (R := Q) (own_lower h.2.1 hQ) (Nat.le_refl Q)), row_recs (fill_row (R := Q) (own_lower h.2.2 hQ) (Nat.le_refl Q))⟩
theorem MsgO.shape {b : Nat} {w : World} {m : Msg} {va vs vm : Value} (h : MsgO b w m va vs vm) : (∃ a c, va = .slice a m.answer.length c) ∧ (∃ a c, vs = .slice a m.servers.length c) ∧ (∃ a c, vm = .slice a m.more.length c) := h.v.shape
theorem dec_yes {s : ByteArray} (hs : s.size ≤ 9223372036854775807) {m : Msg} (h : msgS (tl s) = some m) (w : World) :
    Calls Tryd.prog 7 #[.string s] w fun e w' => ∃ va vs vm, e = .returned (.tuple #[.agg #[.int .i64 m.id, .bool m.reply, .int .i64 m.code, .string m.name, .int .i64 m.ty, va, vs, vm], .int .i64 0]) ∧ MsgO w.heap.size w' m va vs vm ∧ Below w.heap.size w w' :=
  (sDecode_any s w hs).mono fun e w' hd => by
    rw [h] at hd
    obtain ⟨hb, va, vs, vm, b1, b2, he, l1, l2, l3, j1, j2, _⟩ := hd
    exact ⟨va, vs, vm, he, ⟨l1.1, own_lower l2.1 j1, own_lower l3.1 (Nat.le_trans j1 j2)⟩, hb⟩
theorem same_ok {m : Msg} (hok : msgOk m = true) {va vs vm va' vs' vm' : Value} {w : World} (h : MsgV w m va vs vm) (h' : MsgV w m va' vs' vm') :
    Calls Tryd.prog 8 #[.agg #[.int .i64 m.id, .bool m.reply, .int .i64 m.code, .string m.name, .int .i64 m.ty, va, vs, vm], .agg #[.int .i64 m.id, .bool m.reply, .int .i64 m.code, .string m.name, .int .i64 m.ty, va', vs', vm']] w fun e w' => e = .returned (.bool true) ∧ Below w.heap.size w w' :=
  sameMessage_any m va vs vm va' vs' vm' w (lens_ok hok).1 (lens_ok hok).2.1 (lens_ok hok).2.2 h.1 h.2.1 h.2.2 h'.1 h'.2.1 h'.2.2
theorem tl_cut (T : ByteArray) (q : Nat) : tl (T.extract 0 q) = (tl T).take q := by
  unfold tl
  simp [ByteArray.data_extract]
theorem tl_more (T : ByteArray) (c : UInt8) : tl (T ++ ⟨#[c]⟩) = tl T ++ [c] := by
  unfold tl
  simp [ByteArray.data_append]
theorem msgW_pos (m : Msg) : 0 < (msgW m).length := by unfold msgW; simp
end Go.Proofs.YtefdokkadckbbaaDoor
