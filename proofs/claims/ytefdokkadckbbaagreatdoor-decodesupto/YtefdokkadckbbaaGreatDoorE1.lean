/- step, where it encodes; looks, at an empty book; plays. -/
import Derived.Test.YtefdokkadckbbaaGreatDoorD4
namespace Go.Proofs.YtefdokkadckbbaaGreatDoor
open Go.RowKit
set_option maxRecDepth 100000

/-- One step of a script, its lists' values as they lie. -/
structure OpR where
  kind : Int
  at_ : Int
  x : Int
  m : Msg
  a0 : Option Addr
  c0 : Nat
  a1 : Option Addr
  c1 : Nat
  a2 : Option Addr
  c2 : Nat
  s : ByteArray
  ha : Option Addr
  hn : Nat
  hc : Nat
  e1 : Int
  e2 : Int
  e3 : Int
  e4 : Int
  la : Option Addr
  ln : Nat
  lc : Nat

/-- Its lists hold its records; nothing of it is great. -/
def OpGood (w : World) (p : OpR) : Prop :=
  SmallM p.m ∧ LenM p.m ∧ (p.a0 = none → p.m.answer = [] ∧ p.c0 = 0) ∧ (p.a1 = none → p.m.servers = [] ∧ p.c1 = 0) ∧ (p.a2 = none → p.m.more = [] ∧ p.c2 = 0) ∧
  RecSl w (.slice p.a0 p.m.answer.length p.c0) p.m.answer ∧ RecSl w (.slice p.a1 p.m.servers.length p.c1) p.m.servers ∧ RecSl w (.slice p.a2 p.m.more.length p.c2) p.m.more
theorem OpGood.below {w w' : World} {p : OpR} (h : OpGood w p) (hb : Below w.heap.size w w') : OpGood w' p := by
  obtain ⟨h1, h2, h3, h4, h5, h6, h7, h8⟩ := h
  exact ⟨h1, h2, h3, h4, h5, h6.below hb, h7.below hb, h8.below hb⟩

set_option maxHeartbeats 1000000 in
theorem step_encodes (pw : Value) (p : OpR) (w : World) (hG : Good w) (hk : p.kind = 1) (hp : OpGood w p) :
    Calls Tryz.prog 37 #[pw, .agg #[.int .i64 p.kind, .int .i64 p.at_, .int .i64 p.x, .int .i64 p.m.id, .bool p.m.reply, .int .i64 p.m.code, .string p.m.name, .int .i64 p.m.ty, .slice p.a0 p.m.answer.length p.c0, .slice p.a1 p.m.servers.length p.c1, .slice p.a2 p.m.more.length p.c2, .string p.s, .slice p.ha p.hn p.hc, .int .i64 p.e1, .int .i64 p.e2, .int .i64 p.e3, .int .i64 p.e4, .slice p.la p.ln p.lc]] w
      fun e w' => e = .returned (.bool true) ∧ Below w.heap.size w w' := by
  rw [hk]
  obtain ⟨O, hO⟩ : ∃ O, O = Obj.cells #[.int .i64 1, .int .i64 p.at_, .int .i64 p.x, .int .i64 p.m.id, .bool p.m.reply, .int .i64 p.m.code, .string p.m.name, .int .i64 p.m.ty, .slice p.a0 p.m.answer.length p.c0, .slice p.a1 p.m.servers.length p.c1, .slice p.a2 p.m.more.length p.c2, .string p.s, .slice p.ha p.hn p.hc, .int .i64 p.e1, .int .i64 p.e2, .int .i64 p.e3, .int .i64 p.e4, .slice p.la p.ln p.lc] 33 := ⟨_, rfl⟩
  have hB := (Below.refl w.heap.size w).alloc (Nat.le_refl _) O
  have hG' := hG.alloc O
  obtain ⟨h1, h2, h3, h4, h5, h6, h7, h8⟩ := hp.below hB
  have H3 : Hid (p.a0 = none → p.m.answer = [] ∧ p.c0 = 0) := h3
  have H4 : Hid (p.a1 = none → p.m.servers = [] ∧ p.c1 = 0) := h4
  have H5 : Hid (p.a2 = none → p.m.more = [] ∧ p.c2 = 0) := h5
  clear h3 h4 h5 hk hp
  subst hO
  go_enter Tryz.func37, Tryz.ntmps37
  go_wp2_with (go_at_call 75; refine (encoded_any p.m _ _ _ _ _ _ _ hG' h1 h2 H3.out H4.out H5.out h6 h7 h8).mono ?_; rintro e w1 ⟨rfl, hb⟩)
  go_ret
  exact ⟨rfl, hB.trans (hb.mono hB.size)⟩

set_option maxHeartbeats 1000000 in
theorem looks_empty (b o : Nat) (w : World)
    (h0 : w.cell? ⟨b, o, none⟩ = some (.slice none 0 0)) (h2 : w.cell? ⟨b, o + 2, none⟩ = some (.slice none 0 0)) (h4 : w.cell? ⟨b, o + 4, none⟩ = some (.slice none 0 0)) (h6 : w.cell? ⟨b, o + 6, none⟩ = some (.slice none 0 0)) :
    Calls Tryz.prog 41 #[.pointer (some ⟨b, o, none⟩)] w fun e w' => e = .returned (.bool true) ∧ w' = w := by
  go_enter Tryz.func41, Tryz.ntmps41
  go_wp2
  refine wp_loop_rounds 1 ?_
  rw [rounds_succ]
  go_wp2
  refine wp_loop_rounds 1 ?_
  rw [rounds_succ]
  go_wp2
  refine wp_loop_rounds 1 ?_
  rw [rounds_succ]
  go_wp2
  refine wp_loop_rounds 1 ?_
  rw [rounds_succ]
  go_wp2
  go_ret
  exact ⟨rfl, rfl⟩
end Go.Proofs.YtefdokkadckbbaaGreatDoor
