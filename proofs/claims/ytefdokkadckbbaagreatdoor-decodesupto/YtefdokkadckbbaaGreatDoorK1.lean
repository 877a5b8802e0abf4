/- step, where it decodes; plays, of the steps that decode; Decodes. -/
import Derived.Test.YtefdokkadckbbaaGreatDoorJ4
namespace Go.Proofs.YtefdokkadckbbaaGreatDoor
open Go.RowKit
set_option maxRecDepth 100000

set_option maxHeartbeats 1000000 in
theorem step_decodes (B : Nat) (rs rm : Value) (es : List Ent) (nx : Nat) (p : OpR) (w : World) (hk : p.kind = 2) (hs : p.s.size ≤ 1048576) (hbk : Bk w B w.heap.size w.heap.size rs rm es nx) (hes : es.length ≤ 12582912) (hnx : nx ≤ 12582912) :
    Calls Tryz.prog 37 #[.pointer (some ⟨B, 0, none⟩), .agg #[.int .i64 p.kind, .int .i64 p.at_, .int .i64 p.x, .int .i64 p.m.id, .bool p.m.reply, .int .i64 p.m.code, .string p.m.name, .int .i64 p.m.ty, .slice p.a0 p.m.answer.length p.c0, .slice p.a1 p.m.servers.length p.c1, .slice p.a2 p.m.more.length p.c2, .string p.s, .slice p.ha p.hn p.hc, .int .i64 p.e1, .int .i64 p.e2, .int .i64 p.e3, .int .i64 p.e4, .slice p.la p.ln p.lc]] w
      fun e w' => e = .returned (.bool true) ∧ ∃ rs' rm' es', Bk w' B w'.heap.size w'.heap.size rs' rm' (es ++ es') (nx + 3) ∧ es'.length = 12 ∧ Below B w w' := by
  rw [hk]
  obtain ⟨O, hO⟩ : ∃ O, O = Obj.cells #[.int .i64 2, .int .i64 p.at_, .int .i64 p.x, .int .i64 p.m.id, .bool p.m.reply, .int .i64 p.m.code, .string p.m.name, .int .i64 p.m.ty, .slice p.a0 p.m.answer.length p.c0, .slice p.a1 p.m.servers.length p.c1, .slice p.a2 p.m.more.length p.c2, .string p.s, .slice p.ha p.hn p.hc, .int .i64 p.e1, .int .i64 p.e2, .int .i64 p.e3, .int .i64 p.e4, .slice p.la p.ln p.lc] 33 := ⟨_, rfl⟩
  have hB := (Below.refl w.heap.size w).alloc (Nat.le_refl _) O
  have hbk' : Bk (w.alloc O) B (w.alloc O).heap.size (w.alloc O).heap.size rs rm es nx := (hbk.below hB).wide (Nat.le_refl _)
  have hlt := hbk.lt
  clear hk
  subst hO
  go_enter Tryz.func37, Tryz.ntmps37
  go_wp2_with (go_at_call 76; refine (decoded_any p.s _ B rs rm es nx hs hbk' hes hnx).mono ?_; rintro e w1 ⟨rfl, rs', rm', es', h1, h2, h3⟩)
  go_ret
  exact ⟨rfl, rs', rm', es', h1, h2, (hB.mono (Nat.le_of_lt hlt)).trans h3⟩

theorem book_start (w : World) : Bk (w.alloc (.cells #[.slice none 0 0, .slice none 0 0, .slice none 0 0, .slice none 0 0, .slice none 0 0, .slice none 0 0, .slice none 0 0, .slice none 0 0, .slice none 0 0, .int .i64 0] 97)) w.heap.size (w.heap.size + 1) (w.heap.size + 1) (.slice none 0 0) (.slice none 0 0) [] 0 :=
  ⟨Go.heap_alloc_new _ _, World.ownsRow_nil _ _ _ _, World.ownsRow_nil _ _ _ _, fun e he => by cases he⟩

set_option maxHeartbeats 4000000 in
theorem plays_decodes (a : Option Addr) (c : Nat) (ps : List OpR) (w : World) (hN : ps.length ≤ 1048576)
    (hps : ∀ (j : Nat) (p : OpR), ps[j]? = some p → ∃ g o, a = some ⟨g, o, none⟩ ∧ g < w.heap.size ∧ OpAt w g (o + j * 18) p ∧ p.s.size ≤ 1048576) :
    Calls Tryz.prog 13 #[.slice a ps.length c, .int .i64 2, .int .i64 2] w fun e w' => e = .returned (.bool true) ∧ Below w.heap.size w w' := by
  have HP : Hid (∀ (j : Nat) (p : OpR), ps[j]? = some p → ∃ g o, a = some ⟨g, o, none⟩ ∧ g < w.heap.size ∧ OpAt w g (o + j * 18) p ∧ p.s.size ≤ 1048576) := hps
  clear hps
  go_enter Tryz.func13, Tryz.ntmps13
  go_wp2
  go_loopw [9] (fun i wr => ∃ (k : Nat) (rs rm : Value) (es : List Ent) (nx : Nat), k ≤ ps.length ∧ i = .int .i64 k ∧ Below w.heap.size w wr ∧ Bk wr w.heap.size wr.heap.size wr.heap.size rs rm es nx ∧ es.length ≤ 12 * k ∧ nx ≤ 3 * k) (fun i _ => ps.length - (intOf i).toNat)
  case atStart => exact ⟨0, _, _, [], 0, Nat.zero_le _, rfl, (Below.refl _ _).alloc (Nat.le_refl _) _, (book_start w).wide (Nat.le_refl _), Nat.zero_le _, Nat.zero_le _⟩
  case round =>
    obtain ⟨k, rs, rm, es, nx, hk, rfl, hb, hbk, hes, hnx⟩ := hrel
    by_cases hlt : k < ps.length
    · obtain ⟨p, hp⟩ : ∃ p, ps[k]? = some p := ⟨ps[k], List.getElem?_eq_getElem hlt⟩
      obtain ⟨g, o, rfl, hg, hat, hs⟩ := HP.out k p hp
      clear hp
      have hatr := hat.below hb hg
      obtain ⟨c0, c1, c2, c3, c4, c5, c6, c7, c8, c9, c10, c11, c12, c13, c14, c15, c16, c17⟩ := hatr
      clear hat
      by_cases hk1 : p.kind = 2
      · have t1 : 2 ≤ p.kind := by omega
        have t2 : p.kind ≤ 2 := by omega
        have HK : Hid (p.kind = 2) := hk1
        clear hk1
        go_wp2_with (go_at_call 37; refine (step_decodes _ rs rm es nx p _ HK.out hs hbk (by omega) (by omega)).mono ?_; rintro e w1 ⟨rfl, rs', rm', es', h1, h2, h3⟩)
        go_roundw
        case rel => exact ⟨k + 1, rs', rm', es ++ es', nx + 3, hlt, by go_num, hb.trans h3, h1, by simp only [List.length_append]; omega, by omega⟩
        case measure => simp [intOf]; omega
      · by_cases t1 : 2 ≤ p.kind
        · have t2 : 2 < p.kind := by omega
          go_wp2
          go_roundw
          case rel => exact ⟨k + 1, rs, rm, es, nx, hlt, by go_num, hb, hbk, by omega, by omega⟩
          case measure => simp [intOf]; omega
        · have t2 : p.kind < 2 := by omega
          go_wp2
          go_roundw
          case rel => exact ⟨k + 1, rs, rm, es, nx, hlt, by go_num, hb, hbk, by omega, by omega⟩
          case measure => simp [intOf]; omega
    · have d0 : wr.cell? ⟨w.heap.size, 0, none⟩ = some (.slice none 0 0) := by rw [cell_blk hbk.box]; rfl
      go_wp2
      refine wp_loop_rounds 1 ?_
      rw [rounds_succ]
      go_wp2_with (go_at_call 41; refine (looks_any _ _ _ _ rs rm es nx hbk (by omega)).mono ?_; rintro e w' ⟨rfl, n, rfl⟩)
      go_ret
      exact ⟨rfl, below_drewN hb n⟩

set_option maxHeartbeats 1000000 in
theorem Decodes_any (a : Option Addr) (c : Nat) (ps : List OpR) (w : World) (hN : ps.length ≤ 1048576)
    (hps : ∀ (j : Nat) (p : OpR), ps[j]? = some p → ∃ g o, a = some ⟨g, o, none⟩ ∧ g < w.heap.size ∧ OpAt w g (o + j * 18) p ∧ p.s.size ≤ 1048576) :
    Calls Tryz.prog 4 #[.slice a ps.length c] w fun e w' => e = .returned (.bool true) ∧ Below w.heap.size w w' := by
  have HP : Hid (∀ (j : Nat) (p : OpR), ps[j]? = some p → ∃ g o, a = some ⟨g, o, none⟩ ∧ g < w.heap.size ∧ OpAt w g (o + j * 18) p ∧ p.s.size ≤ 1048576) := hps
  clear hps
  go_enter Tryz.func4, Tryz.ntmps4
  go_wp2_with (go_at_call 13; refine (plays_decodes a c ps _ hN HP.out).mono ?_; rintro e w1 ⟨rfl, hb⟩)
  go_ret
  exact ⟨rfl, hb⟩
end Go.Proofs.YtefdokkadckbbaaGreatDoor
