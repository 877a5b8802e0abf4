/- The reference's Encode, where there is no message. -/
import Derived.Test.YtefdokkadckbbaaGreatDoorC3
namespace Go.Proofs.YtefdokkadckbbaaGreatDoor
open Go.RowKit
set_option maxRecDepth 100000

theorem msg_false {m : Msg} {bn b1 b2 b3 : Bool} (hn : nameOk (tl m.name) = bn) (h1 : listOk m.answer = b1) (h2 : listOk m.servers = b2) (h3 : listOk m.more = b3) (h : msgOk m = false) :
    bn = false ∨ (bn = true ∧ b1 = false) ∨ (bn = true ∧ b1 = true ∧ b2 = false) ∨ (bn = true ∧ b1 = true ∧ b2 = true ∧ b3 = false) ∨
      (bn = true ∧ b1 = true ∧ b2 = true ∧ b3 = true ∧ (m.id < 0 ∨ (0 ≤ m.id ∧ 65535 < m.id) ∨ (0 ≤ m.id ∧ m.id ≤ 65535 ∧ m.code < 0) ∨ (0 ≤ m.id ∧ m.id ≤ 65535 ∧ 0 ≤ m.code ∧ 3 < m.code) ∨
        (0 ≤ m.id ∧ m.id ≤ 65535 ∧ 0 ≤ m.code ∧ m.code ≤ 3 ∧ m.ty < 0) ∨ (0 ≤ m.id ∧ m.id ≤ 65535 ∧ 0 ≤ m.code ∧ m.code ≤ 3 ∧ 0 ≤ m.ty ∧ 4 < m.ty))) := by
  cases bn
  · exact .inl rfl
  cases b1
  · exact .inr (.inl ⟨rfl, rfl⟩)
  cases b2
  · exact .inr (.inr (.inl ⟨rfl, rfl, rfl⟩))
  cases b3
  · exact .inr (.inr (.inr (.inl ⟨rfl, rfl, rfl, rfl⟩)))
  refine .inr (.inr (.inr (.inr ⟨rfl, rfl, rfl, rfl, ?_⟩)))
  unfold msgOk numsOk at h
  rw [hn, h1, h2, h3] at h
  simp only [Bool.and_true, Bool.and_eq_false_iff, decide_eq_false_iff_not] at h
  omega

set_option maxHeartbeats 4000000 in
theorem rEncode_no (m : Msg) (va vs vm : Value) (w : World) (hS : SmallM m) (ha : RecSl w va m.answer) (hs : RecSl w vs m.servers) (hm : RecSl w vm m.more) (hok : msgOk m = false) :
    Calls Tryz.prog 124 #[.agg #[.int .i64 m.id, .bool m.reply, .int .i64 m.code, .string m.name, .int .i64 m.ty, va, vs, vm]] w fun e w' => e = .returned (.tuple #[.string (encS m), .int .i64 (encE m)]) ∧ Below w.heap.size w w' := by
  obtain ⟨aa, ca, rfl, hra⟩ := ha
  obtain ⟨ab, cb, rfl, hrs⟩ := hs
  obtain ⟨am, cm, rfl, hrm⟩ := hm
  have hA : RecSl w (.slice aa m.answer.length ca) m.answer := ⟨aa, ca, rfl, hra⟩
  have hSv : RecSl w (.slice ab m.servers.length cb) m.servers := ⟨ab, cb, rfl, hrs⟩
  have hM : RecSl w (.slice am m.more.length cm) m.more := ⟨am, cm, rfl, hrm⟩
  clear hra hrs hrm
  obtain ⟨z0, z1, z2, z3⟩ := hS
  obtain ⟨bn, hbn⟩ : ∃ b, nameOk (tl m.name) = b := ⟨_, rfl⟩
  obtain ⟨b1, hb1⟩ : ∃ b, listOk m.answer = b := ⟨_, rfl⟩
  obtain ⟨b2, hb2⟩ : ∃ b, listOk m.servers = b := ⟨_, rfl⟩
  obtain ⟨b3, hb3⟩ : ∃ b, listOk m.more = b := ⟨_, rfl⟩
  have HF := msg_false hbn hb1 hb2 hb3 hok
  have es := encS_no hok
  have ee := encE_no hok
  have HES : Hid (encS m = ⟨#[]⟩) := es
  have HEE : Hid (encE m = 1) := ee
  obtain ⟨O, hO⟩ : ∃ O, O = Obj.cells #[.int .i64 m.id, .bool m.reply, .int .i64 m.code, .string m.name, .int .i64 m.ty, .slice aa m.answer.length ca, .slice ab m.servers.length cb, .slice am m.more.length cm] 27 := ⟨_, rfl⟩
  have hB := (Below.refl w.heap.size w).alloc (Nat.le_refl _) O
  have hgl : w.heap.size < (w.alloc O).heap.size := by simp
  subst hO
  clear es ee hok
  go_enter Tryz.func124, Tryz.ntmps124
  go_wp2_with fail
  refine (Name_any m.name _ z0).mono ?_
  rw [hbn]
  rintro e w1 ⟨rfl, k1⟩
  have hB1 := hB.step (Nat.le_refl _) k1
  obtain ⟨hc1, _⟩ := bcell k1
  have hz1 : w.heap.size < w1.heap.size := Nat.lt_of_lt_of_le hgl k1.size
  go_wp2_with fail
  refine (records_any _ m.answer _ z1 (hA.below hB1)).mono ?_
  rw [hb1]
  rintro e w2 ⟨rfl, k2⟩
  have hB2 := hB1.step (Nat.le_refl _) k2
  obtain ⟨hc2, _⟩ := bcell k2
  have hz2 : w.heap.size < w2.heap.size := Nat.lt_of_lt_of_le hz1 k2.size
  go_wp2_with fail
  refine (records_any _ m.servers _ z2 (hSv.below hB2)).mono ?_
  rw [hb2]
  rintro e w3 ⟨rfl, k3⟩
  have hB3 := hB2.step (Nat.le_refl _) k3
  obtain ⟨hc3, _⟩ := bcell k3
  have hz3 : w.heap.size < w3.heap.size := Nat.lt_of_lt_of_le hz2 k3.size
  go_wp2_with fail
  refine (records_any _ m.more _ z3 (hM.below hB3)).mono ?_
  rw [hb3]
  rintro e w4 ⟨rfl, k4⟩
  have hB4 := hB3.step (Nat.le_refl _) k4
  obtain ⟨hc4, _⟩ := bcell k4
  clear hbn hb1 hb2 hb3
  rcases HF with rfl | ⟨rfl, rfl⟩ | ⟨rfl, rfl, rfl⟩ | ⟨rfl, rfl, rfl, rfl⟩ | ⟨rfl, rfl, rfl, rfl, h | ⟨h, h'⟩ | ⟨h, h', h1⟩ | ⟨h, h', h1, h1'⟩ | ⟨h, h', h1, h1', h2⟩ | ⟨h, h', h1, h1', h2, h2'⟩⟩
  all_goals
    go_wp2
    go_ret2
    exact ⟨ret_enc HES.out.symm HEE.out.symm, hB4⟩
end Go.Proofs.YtefdokkadckbbaaGreatDoor
