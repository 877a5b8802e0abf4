/- pick, names, equal, sameMessage. -/
import Derived.Test.YtefdokkadckbbaaDoorW1
import Derived.Deep.QuietTactic
import Derived.BigQuiet
namespace Go.Proofs.YtefdokkadckbbaaDoor
open Go.RowKit
set_option maxRecDepth 100000

theorem add_plain (b o j : Nat) : (⟨b, o, none⟩ : Addr).add j = ⟨b, o + j, none⟩ := Addr.add_mid b o j

/-- Which of n things. -/
def pickZ (c n : Int) : Int := (if c < 0 then -(c + 1) else c) % n
theorem pickZ_in (c n : Int) (hn : 0 < n) : 0 ≤ pickZ c n ∧ pickZ c n < n := ⟨Int.emod_nonneg _ (by omega), Int.emod_lt_of_pos _ hn⟩
/-- A whole number of 64 bits. -/
def I64 (c : Int) : Prop := -9223372036854775808 ≤ c ∧ c ≤ 9223372036854775807

set_option maxHeartbeats 400000 in
theorem pick_any (c n : Int) (w : World) (hc : I64 c) (hn : 0 < n) : Calls Tryd.prog 5 #[.int .i64 c, .int .i64 n] w fun e w' => e = .returned (.int .i64 (pickZ c n)) ∧ w' = w := by
  obtain ⟨h1, h2⟩ := hc
  have hn0 : ¬ n = 0 := by omega
  unfold pickZ
  by_cases h : c < 0
  · rw [if_pos h]
    have e : Int.tmod (-(c + 1)) n = (-(c + 1)) % n := Int.tmod_eq_emod_of_nonneg (by omega)
    go_enter Tryd.func5, Tryd.ntmps5
    go_wp2
    go_ret
    exact ⟨rfl, rfl⟩
  · rw [if_neg h]
    have e : Int.tmod c n = c % n := Int.tmod_eq_emod_of_nonneg (by omega)
    go_enter Tryd.func5, Tryd.ntmps5
    go_wp2
    go_ret
    exact ⟨rfl, rfl⟩

/-- The names that are spoken of. -/
def nms : List ByteArray := [⟨#[97]⟩, ⟨#[98]⟩, ⟨#[120, 46, 97]⟩, ⟨#[121, 46, 97]⟩, ⟨#[120, 46, 98]⟩, ⟨#[120, 46, 97, 46, 98]⟩, ⟨#[121, 46, 97, 46, 98]⟩, ⟨#[120, 46, 99, 46, 97]⟩, ⟨#[120]⟩, ⟨#[121]⟩, ⟨#[99]⟩, ⟨#[120, 46, 99]⟩, ⟨#[120, 46, 98, 46, 99]⟩, ⟨#[121, 46, 120, 46, 97]⟩, ⟨#[122, 46, 121, 46, 120, 46, 97]⟩, ⟨#[113]⟩, ⟨#[99, 46, 97]⟩, ⟨#[97, 46, 98]⟩]
def nmsO : Obj := .cells #[.string ⟨#[97]⟩, .string ⟨#[98]⟩, .string ⟨#[120, 46, 97]⟩, .string ⟨#[121, 46, 97]⟩, .string ⟨#[120, 46, 98]⟩, .string ⟨#[120, 46, 97, 46, 98]⟩, .string ⟨#[121, 46, 97, 46, 98]⟩, .string ⟨#[120, 46, 99, 46, 97]⟩, .string ⟨#[120]⟩, .string ⟨#[121]⟩, .string ⟨#[99]⟩, .string ⟨#[120, 46, 99]⟩, .string ⟨#[120, 46, 98, 46, 99]⟩, .string ⟨#[121, 46, 120, 46, 97]⟩, .string ⟨#[122, 46, 121, 46, 120, 46, 97]⟩, .string ⟨#[113]⟩, .string ⟨#[99, 46, 97]⟩, .string ⟨#[97, 46, 98]⟩] 9
theorem nms_ok : ∀ x ∈ nms, nameOk (tl x) = true := by
  decide
set_option maxHeartbeats 400000 in
theorem names_any (w : World) : Calls Tryd.prog 9 #[] w fun e w' => e = .returned (.slice (some ⟨w.heap.size, 0, none⟩) 18 18) ∧ w' = w.alloc nmsO := by
  go_enter Tryd.func9, Tryd.ntmps9
  go_wp2
  go_ret
  exact ⟨rfl, rfl⟩

theorem RecSl.drewN {w : World} {v : Value} {rs : List Rec} (h : RecSl w v rs) (n : Nat) : RecSl (w.drewN n) v rs := h
set_option maxHeartbeats 1000000 in
theorem equal_any (va vb : Value) (rs : List Rec) (w : World) (hN : rs.length ≤ 1048576) (ha : RecSl w va rs) (hb : RecSl w vb rs) :
    Calls Tryd.prog 12 #[va, vb] w fun e w' => e = .returned (.bool true) ∧ ∃ n, w' = w.drewN n := by
  obtain ⟨a, c, rfl, hca⟩ := ha.any
  obtain ⟨b, d, rfl, hcb⟩ := hb.any
  have HA : Hid (∀ (j : Nat) (x : Rec), rs[j]? = some x → ∃ g o, a = some ⟨g, o, none⟩ ∧ g < w.heap.size ∧ RecAt w g (o + j * 5) x) := hca
  have HB : Hid (∀ (j : Nat) (x : Rec), rs[j]? = some x → ∃ g o, b = some ⟨g, o, none⟩ ∧ g < w.heap.size ∧ RecAt w g (o + j * 5) x) := hcb
  clear hca hcb ha hb
  go_enter Tryd.func12, Tryd.ntmps12
  go_wp2
  go_loopw [5] (fun i wr => ∃ k n : Nat, k ≤ rs.length ∧ i = .int .i64 k ∧ wr = w.drewN n) (fun i _ => rs.length - (intOf i).toNat)
  case atStart => exact ⟨0, 0, Nat.zero_le _, rfl, rfl⟩
  case round =>
    obtain ⟨k, n, hk, rfl, rfl⟩ := hrel
    by_cases hlt : k < rs.length
    · obtain ⟨x, hx⟩ := rec_at hlt
      obtain ⟨g, o, rfl, hg, c0, c1, c2, c3, c4⟩ := HA.out k x hx
      obtain ⟨g', o', rfl, hg', d0, d1, d2, d3, d4⟩ := HB.out k x hx
      clear hx
      go_wp2
      go_quiet (fail)
      go_wp2
      go_roundw
      case rel => exact ⟨k + 1, n + nq, hlt, by go_num, rfl⟩
      case measure => simp [intOf]; omega
    · go_wp2
      go_ret
      exact ⟨rfl, n, rfl⟩


set_option maxHeartbeats 2000000 in
theorem sameMessage_any (m : Msg) (va vs vm va' vs' vm' : Value) (w : World) (l1 : m.answer.length ≤ 10) (l2 : m.servers.length ≤ 10) (l3 : m.more.length ≤ 10) (ha : RecSl w va m.answer) (hs : RecSl w vs m.servers) (hm : RecSl w vm m.more) (ha' : RecSl w va' m.answer) (hs' : RecSl w vs' m.servers) (hm' : RecSl w vm' m.more) :
    Calls Tryd.prog 8 #[.agg #[.int .i64 m.id, .bool m.reply, .int .i64 m.code, .string m.name, .int .i64 m.ty, va, vs, vm], .agg #[.int .i64 m.id, .bool m.reply, .int .i64 m.code, .string m.name, .int .i64 m.ty, va', vs', vm']] w fun e w' => e = .returned (.bool true) ∧ Below w.heap.size w w' := by
  obtain ⟨aa, ca, rfl, _⟩ := ha.any
  obtain ⟨as_, cs, rfl, _⟩ := hs.any
  obtain ⟨am, cm, rfl, _⟩ := hm.any
  obtain ⟨aa', ca', rfl, _⟩ := ha'.any
  obtain ⟨as', cs', rfl, _⟩ := hs'.any
  obtain ⟨am', cm', rfl, _⟩ := hm'.any
  obtain ⟨O1, hO1⟩ : ∃ O, O = Obj.cells #[.int .i64 m.id, .bool m.reply, .int .i64 m.code, .string m.name, .int .i64 m.ty, .slice aa m.answer.length ca, .slice as_ m.servers.length cs, .slice am m.more.length cm] 27 := ⟨_, rfl⟩
  obtain ⟨O2, hO2⟩ : ∃ O, O = Obj.cells #[.int .i64 m.id, .bool m.reply, .int .i64 m.code, .string m.name, .int .i64 m.ty, .slice aa' m.answer.length ca', .slice as' m.servers.length cs', .slice am' m.more.length cm'] 27 := ⟨_, rfl⟩
  have hB : Below w.heap.size w ((w.alloc O1).alloc O2) := ((Below.refl _ _).alloc (Nat.le_refl _) _).alloc (by simp) _
  have A := ha.below hB
  have S := hs.below hB
  have V := hm.below hB
  have A' := ha'.below hB
  have S' := hs'.below hB
  have V' := hm'.below hB
  subst hO1 hO2
  go_enter Tryd.func8, Tryd.ntmps8
  go_wp2_with fail
  refine (equal_any _ _ m.answer _ (by omega) A A').mono ?_
  rintro e w' ⟨rfl, n1, rfl⟩
  go_wp2_with fail
  refine (equal_any _ _ m.servers _ (by omega) (S.drewN n1) (S'.drewN n1)).mono ?_
  rintro e w' ⟨rfl, n2, rfl⟩
  go_wp2_with fail
  refine (equal_any _ _ m.more _ (by omega) (V.drewN (n1 + n2)) (V'.drewN (n1 + n2))).mono ?_
  rintro e w' ⟨rfl, n3, rfl⟩
  go_wp2
  go_ret
  exact ⟨rfl, below_drewN hB _⟩
end Go.Proofs.YtefdokkadckbbaaDoor
