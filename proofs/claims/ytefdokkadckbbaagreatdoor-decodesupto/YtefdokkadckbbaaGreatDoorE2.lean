/- plays, of the steps that encode; Encodes. -/
import Derived.Test.YtefdokkadckbbaaGreatDoorE1
namespace Go.Proofs.YtefdokkadckbbaaGreatDoor
open Go.RowKit
set_option maxRecDepth 100000

/-- A step's eighteen cells. -/
def OpAt (w : World) (g o : Nat) (p : OpR) : Prop :=
  w.cell? ⟨g, o, none⟩ = some (.int .i64 p.kind) ∧ w.cell? ⟨g, o + 1, none⟩ = some (.int .i64 p.at_) ∧ w.cell? ⟨g, o + 2, none⟩ = some (.int .i64 p.x) ∧ w.cell? ⟨g, o + 3, none⟩ = some (.int .i64 p.m.id) ∧ w.cell? ⟨g, o + 4, none⟩ = some (.bool p.m.reply) ∧ w.cell? ⟨g, o + 5, none⟩ = some (.int .i64 p.m.code) ∧ w.cell? ⟨g, o + 6, none⟩ = some (.string p.m.name) ∧ w.cell? ⟨g, o + 7, none⟩ = some (.int .i64 p.m.ty) ∧ w.cell? ⟨g, o + 8, none⟩ = some (.slice p.a0 p.m.answer.length p.c0) ∧ w.cell? ⟨g, o + 9, none⟩ = some (.slice p.a1 p.m.servers.length p.c1) ∧ w.cell? ⟨g, o + 10, none⟩ = some (.slice p.a2 p.m.more.length p.c2) ∧ w.cell? ⟨g, o + 11, none⟩ = some (.string p.s) ∧ w.cell? ⟨g, o + 12, none⟩ = some (.slice p.ha p.hn p.hc) ∧ w.cell? ⟨g, o + 13, none⟩ = some (.int .i64 p.e1) ∧ w.cell? ⟨g, o + 14, none⟩ = some (.int .i64 p.e2) ∧ w.cell? ⟨g, o + 15, none⟩ = some (.int .i64 p.e3) ∧ w.cell? ⟨g, o + 16, none⟩ = some (.int .i64 p.e4) ∧ w.cell? ⟨g, o + 17, none⟩ = some (.slice p.la p.ln p.lc)
theorem OpAt.below {w w' : World} {B g o : Nat} {p : OpR} (h : OpAt w g o p) (hb : Below B w w') (hg : g < B) : OpAt w' g o p := by
  unfold OpAt at *
  simp only [hb.cell (p := ⟨g, _, none⟩) hg]
  exact h

set_option maxHeartbeats 4000000 in
theorem plays_encodes (a : Option Addr) (c : Nat) (ps : List OpR) (w : World) (hG : Good w) (hN : ps.length ≤ 1048576)
    (hps : ∀ (j : Nat) (p : OpR), ps[j]? = some p → ∃ g o, a = some ⟨g, o, none⟩ ∧ g < w.heap.size ∧ OpAt w g (o + j * 18) p ∧ OpGood w p) :
    Calls Tryz.prog 13 #[.slice a ps.length c, .int .i64 1, .int .i64 1] w fun e w' => e = .returned (.bool true) ∧ Below w.heap.size w w' := by
  have HP : Hid (∀ (j : Nat) (p : OpR), ps[j]? = some p → ∃ g o, a = some ⟨g, o, none⟩ ∧ g < w.heap.size ∧ OpAt w g (o + j * 18) p ∧ OpGood w p) := hps
  clear hps
  have HG : Hid (Good w) := hG
  clear hG
  go_enter Tryz.func13, Tryz.ntmps13
  go_wp2
  go_loopw [9] (fun i wr => ∃ k : Nat, k ≤ ps.length ∧ i = .int .i64 k ∧ Below w.heap.size w wr ∧ wr.heap[w.heap.size]? = some (.cells #[.slice none 0 0, .slice none 0 0, .slice none 0 0, .slice none 0 0, .slice none 0 0, .slice none 0 0, .slice none 0 0, .slice none 0 0, .slice none 0 0, .int .i64 0] 97 (0, 0))) (fun i _ => ps.length - (intOf i).toNat)
  case atStart => exact ⟨0, Nat.zero_le _, rfl, (Below.refl _ _).alloc (Nat.le_refl _) _, heap_alloc_new _ _⟩
  case round =>
    obtain ⟨k, hk, rfl, hb, hbk⟩ := hrel
    have HB : Hid (wr.heap[w.heap.size]? = some (.cells #[.slice none 0 0, .slice none 0 0, .slice none 0 0, .slice none 0 0, .slice none 0 0, .slice none 0 0, .slice none 0 0, .slice none 0 0, .slice none 0 0, .int .i64 0] 97 (0, 0))) := hbk
    clear hbk
    by_cases hlt : k < ps.length
    · obtain ⟨p, hp⟩ : ∃ p, ps[k]? = some p := ⟨ps[k], List.getElem?_eq_getElem hlt⟩
      obtain ⟨g, o, rfl, hg, hat, hgood⟩ := HP.out k p hp
      clear hp
      have hatr := hat.below hb hg
      have hgr := hgood.below hb
      have hG1 := HG.out.below hb
      obtain ⟨c0, c1, c2, c3, c4, c5, c6, c7, c8, c9, c10, c11, c12, c13, c14, c15, c16, c17⟩ := hatr
      clear hat hgood
      by_cases hk1 : p.kind = 1
      · have t1 : 1 ≤ p.kind := by omega
        have t2 : p.kind ≤ 1 := by omega
        have HK : Hid (p.kind = 1) := hk1
        clear hk1
        go_wp2_with (go_at_call 37; refine (step_encodes _ p _ hG1 HK.out hgr).mono ?_; rintro e w1 ⟨rfl, hb1⟩)
        go_roundw
        case rel => exact ⟨k + 1, hlt, by go_num, hb.step (Nat.le_refl _) hb1, by rw [hb1.block _ (Array.getElem?_eq_some_iff.1 HB.out).1]; exact HB.out⟩
        case measure => simp [intOf]; omega
      · by_cases t1 : 1 ≤ p.kind
        · have t2 : 1 < p.kind := by omega
          go_wp2
          go_roundw
          case rel => exact ⟨k + 1, hlt, by go_num, hb, HB.out⟩
          case measure => simp [intOf]; omega
        · have t2 : p.kind < 1 := by omega
          go_wp2
          go_roundw
          case rel => exact ⟨k + 1, hlt, by go_num, hb, HB.out⟩
          case measure => simp [intOf]; omega
    · have d0 : wr.cell? ⟨w.heap.size, 0, none⟩ = some (.slice none 0 0) := by rw [cell_blk HB.out]; rfl
      have d1 : wr.cell? ⟨w.heap.size, 1, none⟩ = some (.slice none 0 0) := by rw [cell_blk HB.out]; rfl
      have d3 : wr.cell? ⟨w.heap.size, 1 + 2, none⟩ = some (.slice none 0 0) := by rw [cell_blk HB.out]; rfl
      have d5 : wr.cell? ⟨w.heap.size, 1 + 4, none⟩ = some (.slice none 0 0) := by rw [cell_blk HB.out]; rfl
      have d7 : wr.cell? ⟨w.heap.size, 1 + 6, none⟩ = some (.slice none 0 0) := by rw [cell_blk HB.out]; rfl
      go_wp2
      refine wp_loop_rounds 1 ?_
      rw [rounds_succ]
      go_wp2_with (go_at_call 41; refine (looks_empty _ 1 _ d1 d3 d5 d7).mono ?_; rintro e w' ⟨rfl, rfl⟩)
      go_ret
      exact ⟨rfl, hb⟩

set_option maxHeartbeats 1000000 in
theorem Encodes_any (a : Option Addr) (c : Nat) (ps : List OpR) (w : World) (hG : Good w) (hN : ps.length ≤ 1048576)
    (hps : ∀ (j : Nat) (p : OpR), ps[j]? = some p → ∃ g o, a = some ⟨g, o, none⟩ ∧ g < w.heap.size ∧ OpAt w g (o + j * 18) p ∧ OpGood w p) :
    Calls Tryz.prog 3 #[.slice a ps.length c] w fun e w' => e = .returned (.bool true) ∧ Below w.heap.size w w' := by
  have HP : Hid (∀ (j : Nat) (p : OpR), ps[j]? = some p → ∃ g o, a = some ⟨g, o, none⟩ ∧ g < w.heap.size ∧ OpAt w g (o + j * 18) p ∧ OpGood w p) := hps
  clear hps
  go_enter Tryz.func3, Tryz.ntmps3
  go_wp2_with (go_at_call 13; refine (plays_encodes a c ps _ hG hN HP.out).mono ?_; rintro e w1 ⟨rfl, hb⟩)
  go_ret
  exact ⟨rfl, hb⟩
end Go.Proofs.YtefdokkadckbbaaGreatDoor
