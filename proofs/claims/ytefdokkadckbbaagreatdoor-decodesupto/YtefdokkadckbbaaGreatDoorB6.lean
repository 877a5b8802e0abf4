/- wire.Encode, signpost.Encode. -/
import Derived.Test.YtefdokkadckbbaaGreatDoorB5
namespace Go.Proofs.YtefdokkadckbbaaGreatDoor
open Go.RowKit
set_option maxRecDepth 100000

def encS (m : Msg) : ByteArray := if msgOk m then mk (msgW m) else ⟨#[]⟩
def encE (m : Msg) : Int := if msgOk m then 0 else 1
theorem encS_yes {m : Msg} (h : msgOk m = true) : encS m = mk (msgW m) := by unfold encS; rw [h]; rfl
theorem encS_no {m : Msg} (h : msgOk m = false) : encS m = ⟨#[]⟩ := by unfold encS; rw [h]; rfl
theorem encE_yes {m : Msg} (h : msgOk m = true) : encE m = 0 := by unfold encE; rw [h]; rfl
theorem encE_no {m : Msg} (h : msgOk m = false) : encE m = 1 := by unfold encE; rw [h]; rfl
theorem ret_enc {a b : ByteArray} {x y : Int} (h : a = b) (h' : x = y) : Ending.returned (.tuple #[.string a, .int .i64 x]) = .returned (.tuple #[.string b, .int .i64 y]) := by rw [h, h']

set_option maxHeartbeats 1000000 in
theorem wEncode_any (m : Msg) (va vs vm : Value) (w : World) (hG : Good w) (hS : SmallM m) (ha : RecSl w va m.answer) (hs : RecSl w vs m.servers) (hm : RecSl w vm m.more) :
    Calls Tryz.prog 95 #[.agg #[.int .i64 m.id, .bool m.reply, .int .i64 m.code, .string m.name, .int .i64 m.ty, va, vs, vm]] w fun e w' => e = .returned (.tuple #[.string (encS m), .int .i64 (encE m)]) ∧ Below w.heap.size w w' := by
  obtain ⟨aa, ca, rfl, hra⟩ := ha
  obtain ⟨ab, cb, rfl, hrs⟩ := hs
  obtain ⟨am, cm, rfl, hrm⟩ := hm
  have hA : RecSl w (.slice aa m.answer.length ca) m.answer := ⟨aa, ca, rfl, hra⟩
  have hSv : RecSl w (.slice ab m.servers.length cb) m.servers := ⟨ab, cb, rfl, hrs⟩
  have hM : RecSl w (.slice am m.more.length cm) m.more := ⟨am, cm, rfl, hrm⟩
  clear hra hrs hrm
  obtain ⟨O, hO⟩ : ∃ O, O = Obj.cells #[.int .i64 m.id, .bool m.reply, .int .i64 m.code, .string m.name, .int .i64 m.ty, .slice aa m.answer.length ca, .slice ab m.servers.length cb, .slice am m.more.length cm] 27 := ⟨_, rfl⟩
  have hB := (Below.refl w.heap.size w).alloc (Nat.le_refl _) O
  have hG' := hG.alloc O
  cases hok : msgOk m with
  | false =>
    have es := encS_no hok
    have ee := encE_no hok
    subst hO
    go_enter Tryz.func95, Tryz.ntmps95
    go_wp2_with (go_at_call 133; refine (isMessage_any m _ _ _ _ hG' hS (hA.below hB) (hSv.below hB) (hM.below hB)).mono ?_; rw [hok]; rintro e w1 ⟨rfl, hb⟩)
    go_ret2
    exact ⟨ret_enc es.symm ee.symm, hB.trans (hb.mono hB.size)⟩
  | true =>
    have es := encS_yes hok
    have ee := encE_yes hok
    subst hO
    go_enter Tryz.func95, Tryz.ntmps95
    go_wp2_with fail
    refine (isMessage_any m _ _ _ _ hG' hS (hA.below hB) (hSv.below hB) (hM.below hB)).mono ?_
    rw [hok]
    rintro e w1 ⟨rfl, hb⟩
    have hG1 := hG'.below hb
    have hB1 := hB.trans (hb.mono hB.size)
    obtain ⟨hc1, _⟩ := bcell hb
    go_wp2_with fail
    refine (messageBytes_any m _ _ _ _ hG1 hok (hA.below hB1) (hSv.below hB1) (hM.below hB1)).mono ?_
    rintro e w2 ⟨rfl, hb2⟩
    go_wp2
    go_ret2
    exact ⟨ret_enc es.symm ee.symm, hB1.step (Nat.le_refl _) hb2⟩

set_option maxHeartbeats 1000000 in
theorem sEncode_any (m : Msg) (va vs vm : Value) (w : World) (hG : Good w) (hS : SmallM m) (ha : RecSl w va m.answer) (hs : RecSl w vs m.servers) (hm : RecSl w vm m.more) :
    Calls Tryz.prog 47 #[.agg #[.int .i64 m.id, .bool m.reply, .int .i64 m.code, .string m.name, .int .i64 m.ty, va, vs, vm]] w fun e w' => e = .returned (.tuple #[.string (encS m), .int .i64 (encE m)]) ∧ Below w.heap.size w w' := by
  obtain ⟨aa, ca, rfl, hra⟩ := ha
  obtain ⟨ab, cb, rfl, hrs⟩ := hs
  obtain ⟨am, cm, rfl, hrm⟩ := hm
  have hA : RecSl w (.slice aa m.answer.length ca) m.answer := ⟨aa, ca, rfl, hra⟩
  have hSv : RecSl w (.slice ab m.servers.length cb) m.servers := ⟨ab, cb, rfl, hrs⟩
  have hM : RecSl w (.slice am m.more.length cm) m.more := ⟨am, cm, rfl, hrm⟩
  clear hra hrs hrm
  obtain ⟨O, hO⟩ : ∃ O, O = Obj.cells #[.int .i64 m.id, .bool m.reply, .int .i64 m.code, .string m.name, .int .i64 m.ty, .slice aa m.answer.length ca, .slice ab m.servers.length cb, .slice am m.more.length cm] 27 := ⟨_, rfl⟩
  have hB := (Below.refl w.heap.size w).alloc (Nat.le_refl _) O
  have hG' := hG.alloc O
  subst hO
  go_enter Tryz.func47, Tryz.ntmps47
  go_wp2_with (go_at_call 95; refine (wEncode_any m _ _ _ _ hG' hS (hA.below hB) (hSv.below hB) (hM.below hB)).mono ?_; rintro e w1 ⟨rfl, hb⟩)
  go_ret2
  exact ⟨rfl, hB.trans (hb.mono hB.size)⟩
end Go.Proofs.YtefdokkadckbbaaGreatDoor
