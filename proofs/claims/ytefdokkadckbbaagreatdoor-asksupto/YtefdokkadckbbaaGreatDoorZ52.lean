/- Ro -/
import Derived.Test.YtefdokkadckbbaaGreatDoorZ51
namespace Go.Proofs.YtefdokkadckbbaaGreatDoor
open Go.RowKit
set_option maxRecDepth 100000
structure AskOp (w : World) (p : OpR) : Prop where
 kind : p.kind ≠ 5
 text : p.s.size ≤ 1048576
 nums : ∃ hs : List Int, p.hn = hs.length ∧ NumSl w (.slice p.ha p.hn p.hc) hs ∧ NumLow w.heap.size p.ha hs ∧ hs.length ≤ 1048576
theorem AskOp.below {w w' : World} {p : OpR} (h : AskOp w p) (hb : Below w.heap.size w w') : AskOp w' p := by
 obtain ⟨hs, h1, h2, h3, h4⟩ := h.nums
 exact ⟨h.kind, h.text, hs, h1, h2.below hb, fun ad e1 e2 => Nat.lt_of_lt_of_le (h3 ad e1 e2) hb.size, h4⟩
theorem lstep_any (w0 W : World) (B m : Nat) (p : OpR) (h3 : 3 ≤ p.kind) (h9 : p.kind ≤ 9) (hp : AskOp w0 p) (hI : LawI w0 W B m) (hG0 : Good w0) (hm : m ≤ 1048576) :
  Calls Tryz.prog 37 #[.pointer (some ⟨B, 0, none⟩), .agg #[.int .i64 p.kind, .int .i64 p.at_, .int .i64 p.x, .int .i64 p.m.id, .bool p.m.reply, .int .i64 p.m.code, .string p.m.name, .int .i64 p.m.ty, .slice p.a0 p.m.answer.length p.c0, .slice p.a1 p.m.servers.length p.c1, .slice p.a2 p.m.more.length p.c2, .string p.s, .slice p.ha p.hn p.hc, .int .i64 p.e1, .int .i64 p.e2, .int .i64 p.e3, .int .i64 p.e4, .slice p.la p.ln p.lc]] W fun e W' => e = .returned (.bool true) ∧ LawI w0 W' B (m + 1) := by
 have h5 := hp.kind
 have hk : p.kind = 3 ∨ p.kind = 4 ∨ p.kind = 6 ∨ p.kind = 7 ∨ p.kind = 8 ∨ p.kind = 9 := by omega
 rcases hk with hk | hk | hk | hk | hk | hk
 ·obtain ⟨hs, n1, n2, n3, n4⟩ := hp.nums
  exact lstep3 w0 W B m p hk hI hG0 hm hs n1 (n2.below hI.low) n3 n4
 ·exact lstep4 w0 W B m p hk hI hG0 hm hp.text
 ·exact lstep6 w0 W B m p hk hI hG0 hm
 ·exact lstep7 w0 W B m p hk hI hG0 hm
 ·exact lstep8 w0 W B m p hk hI hG0 hm
 ·exact lstep9 w0 W B m p hk hI hG0 hm
theorem LawI.later {w0 W : World} {B m : Nat} (h : LawI w0 W B m) : LawI w0 W B (m + 1) := by
 obtain ⟨O, vl, ps, pm, as_, am, es, em, prs, P, A, E, nx, hS, hrs, ⟨hlen, hne⟩, hP, hA, hE, hnx⟩ := h.ex
 exact ⟨⟨O, vl, ps, pm, as_, am, es, em, prs, P, A, E, nx, hS, rs_more hrs, ⟨by omega, hne⟩, by omega, by omega, by omega, by omega⟩, h.low, h.good⟩
theorem lists_none {W : World} {O : Nat → Prop} {e ll : TypeId} {m : Int → List Value} : Lists W O e ll m (.slice none 0 0) (.slice none 0 0) [] :=
 ⟨World.ownsRow_nil _ _ _ _, World.ownsRow_nil _ _ _ _, fun d hd => (by cases hd), fun k hk => (by cases hk), fun k hk => (by cases hk)⟩
theorem law_start {W : World} {base B : Nat} (hB : W.heap[B]? = some (bookO (.slice none 0 0) (.slice none 0 0) (.slice none 0 0) (.slice none 0 0) (.slice none 0 0) (.slice none 0 0) (.slice none 0 0) 0)) (hb : base ≤ B) (hlt : B < W.heap.size) :
  LawS W base (fun k => k = B) B (.slice none 0 0) (.slice none 0 0) (.slice none 0 0) (.slice none 0 0) (.slice none 0 0) (.slice none 0 0) (.slice none 0 0) [] [] [] [] 0 :=
 ⟨hB, lists_none, lists_none, lists_none, ⟨fun k hk => (by cases hk), fun k hk => (by cases hk)⟩, World.ownsRow_nil _ _ _ _, ⟨rfl, (fun k hk => by cases hk), fun p hp => (by cases hp)⟩, fun p hp => (by cases hp), ⟨fun p hp => (by cases hp), List.Pairwise.nil⟩, (fun k hk => by subst hk; exact hlt), (fun k hk => by subst hk; exact hb), fun p hp => (by cases hp)⟩
theorem law_first (w X : World) (hG : Good w) (x1 : X.heap[w.heap.size]? = some (bookO (.slice none 0 0) (.slice none 0 0) (.slice none 0 0) (.slice none 0 0) (.slice none 0 0) (.slice none 0 0) (.slice none 0 0) 0)) (x2 : X.heap[w.heap.size + 1]? = some (.cells #[.int .i64 9] 3 (0, 0))) (x3 : X.heap.size = w.heap.size + 2) (x4 : Below w.heap.size w X) :
  Calls Tryz.prog 36 #[.pointer (some ⟨w.heap.size, 0, none⟩), .agg #[.slice (some ⟨w.heap.size + 1, 0, none⟩) 1 1, .int .i64 64, .int .i64 2, .int .i64 3, .int .i64 500]] X fun e W' => e = .returned (.bool true) ∧ LawI w W' w.heap.size 0 := by
 have hS := law_start (base := w.heap.size) x1 (Nat.le_refl _) (by omega)
 have hv : NumSl X (.slice (some ⟨w.heap.size + 1, 0, none⟩) [(9 : Int)].length 1) [9] := by
  refine ⟨_, 1, rfl, .inr ⟨w.heap.size + 1, 0, rfl, by omega, by simp, fun j x hj => ?_⟩⟩
  have hj0 : j = 0 := by
   cases j with
   | zero => rfl
   | succ j => simp at hj
  subst hj0
  simp at hj
  subst hj
  rw [cell_blk x2]; rfl
 have hok : cfgOk [9] 64 2 3 500 = true := by decide
 refine (lmade_any X w.heap.size _ w.heap.size _ _ _ _ _ _ _ [] [] [] [] 0 (some ⟨w.heap.size + 1, 0, none⟩) 1 [9] 64 2 3 500 hS (good_low hG x4) hv (fun ad e _ => by cases e; show w.heap.size + 1 < _; omega) (by simp) (by simp)).mono ?_
 rintro e W' ⟨rfl, O', vl', prs', h1, h2, h3⟩
 have hl2 := x4.trans h2
 refine ⟨rfl, ?_⟩
 rcases h3 with ⟨h', _⟩ | ⟨_, q, rfl, hs1, hs2⟩
 ·rw [hok] at h'; cases h'
 ·refine ⟨⟨_, _, _, _, _, _, _, _, _, _, _, _, _, h1, fun r hr => ?_, ⟨by simp, by simp⟩, by simp, by simp, by simp, by simp⟩, hl2, good_low hG hl2⟩
  simp only [List.nil_append, List.mem_singleton] at hr
  subst hr
  rw [hs1, hs2]
  exact ⟨rfl, newRs_ok hok _ _⟩
theorem take_drop {α : Type} {l : List α} {j : Nat} {p : α} (h : l[j]? = some p) : l = l.take j ++ p :: l.drop (j + 1) := by
 obtain ⟨hj, e⟩ := List.getElem?_eq_some_iff.1 h
 rw [← e, List.getElem_cons_drop, List.take_append_drop]
set_option maxHeartbeats 4000000 in
theorem plays_asks (a : Option Addr) (c : Nat) (ps : List OpR) (w : World) (hG : Good w) (hN : ps.length ≤ 1048576)
  (hps : ∀ (j : Nat) (p : OpR), ps[j]? = some p → ∃ g o, a = some ⟨g, o, none⟩ ∧ g < w.heap.size ∧ OpAt w g (o + j * 18) p ∧ AskOp w p) :
  Calls Tryz.prog 13 #[.slice a ps.length c, .int .i64 3, .int .i64 9] w fun e w' => e = .returned (.bool true) ∧ Below w.heap.size w w' := by
 have HP : Hid (∀ (j : Nat) (p : OpR), ps[j]? = some p → ∃ g o, a = some ⟨g, o, none⟩ ∧ g < w.heap.size ∧ OpAt w g (o + j * 18) p ∧ AskOp w p) := hps
 have HG := hid hG
 clear hps hG
 go_enter Tryz.func13, Tryz.ntmps13
 go_wp2_with fail
 obtain ⟨X, hX, x1, x2, x3, x4⟩ := allocs2 w (.cells #[.slice none 0 0, .slice none 0 0, .slice none 0 0, .slice none 0 0, .slice none 0 0, .slice none 0 0, .slice none 0 0, .slice none 0 0, .slice none 0 0, .int .i64 0] 97) (.cells #[.int .i64 9] 3)
 rw [hX]
 have HF := hid (law_first w X HG.out x1 x2 x3 x4)
 clear hX x1 x2 x3 x4
 refine HF.out.mono ?_
 rintro e W1 ⟨rfl, h1⟩
 clear HF
 have HI := hid h1
 clear h1
 go_wp2
 go_loopw [9] (fun i wr => ∃ (k : Nat), k ≤ ps.length ∧ i = .int .i64 k ∧ LawI w wr w.heap.size k) (fun i _ => ps.length - (intOf i).toNat)
 case atStart => exact ⟨0, Nat.zero_le _, rfl, HI.out⟩
 case round =>
  obtain ⟨k, hk, rfl, hI⟩ := hrel
  clear HI
  have hb := hI.low
  by_cases hlt : k < ps.length
  ·obtain ⟨p, hp⟩ : ∃ p, ps[k]? = some p := ⟨ps[k], List.getElem?_eq_getElem hlt⟩
   obtain ⟨g, o, rfl, hg, hat, hs⟩ := HP.out k p hp
   clear hp
   have hatr := hat.below hb hg
   obtain ⟨c0, c1, c2, c3, c4, c5, c6, c7, c8, c9, c10, c11, c12, c13, c14, c15, c16, c17⟩ := hatr
   clear hat
   by_cases hk1 : 3 ≤ p.kind ∧ p.kind ≤ 9
   ·obtain ⟨t1, t2⟩ := hk1
    have HC := hid (lstep_any w wr w.heap.size k p t1 t2 hs hI HG.out (by omega))
    have HB := hid hb
    clear hs hI hb
    go_wp2_with (go_at_call 37; refine HC.out.mono ?_; rintro e w1 ⟨rfl, h1⟩)
    go_roundw
    case rel => exact ⟨k + 1, hlt, by go_num, h1⟩
    case measure => simp [intOf]; omega
   ·have HI := hid hI
    have HB := hid hb
    clear hs hI hb
    by_cases t1 : 3 ≤ p.kind
    ·have t2 : 9 < p.kind := by omega
     go_wp2
     go_roundw
     case rel => exact ⟨k + 1, hlt, by go_num, HI.out.later⟩
     case measure => simp [intOf]; omega
    ·have t2 : p.kind < 3 := by omega
     go_wp2
     go_roundw
     case rel => exact ⟨k + 1, hlt, by go_num, HI.out.later⟩
     case measure => simp [intOf]; omega
  ·obtain ⟨O, vl, ps0, pm, as_, am, es, em, prs, P, A, E, nx, hS, hrs, ⟨hlen, hne⟩, hP, hA, hE, hnx⟩ := hI.ex
   obtain ⟨va, vc, hvl, _⟩ := rowl_at hS.row
   subst hvl
   have HS := hid hS
   have HR := hid hrs
   have HB := hid hb
   have HN : Hid (P.length ≤ 4 * k ∧ A.length ≤ 4 * k ∧ E.length ≤ 4 * k ∧ nx ≤ 3 * k) := ⟨hP, hA, hE, hnx⟩
   have HL : Hid (prs.length ≤ k + 1) := hlen
   clear hS hrs hb hP hA hE hnx hI hne hlen HP
   go_wp2
   go_loopw [11] (fun i wr => ∃ (j : Nat) (O : Nat → Prop) (ps pm as_ am es em : Value) (P A E : List Ent) (nx : Nat), j ≤ prs.length ∧ i = .int .i64 j ∧ LawS wr w.heap.size O w.heap.size (.slice va prs.length vc) ps pm as_ am es em prs P A E nx ∧ Below w.heap.size w wr ∧ P.length ≤ 4 * k + 4 * j ∧ A.length ≤ 4 * k + 4 * j ∧ E.length ≤ 4 * k + 4 * j ∧ nx ≤ 3 * k + 3 * j) (fun i _ => prs.length - (intOf i).toNat)
   case atStart =>
    obtain ⟨h1, h2, h3, h4⟩ := HN.out
    exact ⟨0, _, _, _, _, _, _, _, _, _, _, _, Nat.zero_le _, rfl, HS.out, HB.out, by omega, by omega, by omega, by omega⟩
   case round =>
    clear HS HB HN
    obtain ⟨j, O, ps1, pm, as_, am, es, em, P, A, E, nx, hj, rfl, hS, hb, hP, hA, hE, hnx⟩ := hrel
    have d0 : wr.cell? ⟨w.heap.size, 0, none⟩ = some (.slice va prs.length vc) := by rw [cell_blk hS.box]; rfl
    have hl := HL.out
    by_cases hlt2 : j < prs.length
    ·obtain ⟨p, hp⟩ : ∃ p, prs[j]? = some p := ⟨prs[j], List.getElem?_eq_getElem hlt2⟩
     obtain ⟨p1, p2⟩ := HR.out p (List.mem_of_getElem? hp)
     have hcut := hid (take_drop hp)
     have hat : ∀ W O ps pm as_ am es em P A E nx, LawS W w.heap.size O w.heap.size (.slice va prs.length vc) ps pm as_ am es em prs P A E nx → W.cell? ⟨w.heap.size, 0, none⟩ = some (.slice va prs.length vc) ∧ ∃ g, va = some ⟨g, 0, none⟩ ∧ W.cell? ⟨g, j, none⟩ = some (.pointer (some ⟨p.pb, 0, none⟩)) := by
      intro W O ps pm as_ am es em P A E nx h
      refine ⟨by rw [cell_blk h.box]; rfl, ?_⟩
      obtain ⟨a, c, e, h2⟩ := rowl_at h.row
      simp only [Value.slice.injEq] at e
      obtain ⟨rfl, _, rfl⟩ := e
      exact h2 j _ (by rw [List.getElem?_map, hp]; rfl)
     obtain ⟨_, g, hg, d1⟩ := hat _ _ _ _ _ _ _ _ _ _ _ _ hS
     subst hg
     have HAT := hid hat
     have hS' := hS
     rw [hcut.out] at hS'
     have HC1 := hid (lsent_any wr w.heap.size O w.heap.size _ ps1 pm as_ am es em _ _ p P A E nx k (9 * k) 0 hS' p2 p1 (by omega) (by omega) (by omega))
     rw [← hcut.out] at HC1
     have HB := hid hb
     clear hS hS' hb hat hp
     go_wp2_with fail
     refine HC1.out.mono ?_
     rintro e W1 ⟨rfl, O1, ps2, pm2, P2, h1, hl1, hb1⟩
     clear d0 d1 HC1
     obtain ⟨d0, g', hg', d1⟩ := HAT.out _ _ _ _ _ _ _ _ _ _ _ _ h1
     cases hg'
     rw [hcut.out] at h1
     have HC2 := hid (lreps_any W1 w.heap.size O1 w.heap.size _ ps2 pm2 as_ am es em _ _ p P2 A E (nx + 1) k (9 * k) 0 h1 p2 p1 (by omega) (by omega) (by omega))
     rw [← hcut.out] at HC2
     have HB1 := hid (HB.out.trans hb1)
     clear hb1 h1 HB
     go_wp2_with fail
     refine HC2.out.mono ?_
     rintro e W2 ⟨rfl, O2, as2, am2, A2, h2, hl2, hb2⟩
     clear d0 d1 HC2
     obtain ⟨d0, g', hg', d1⟩ := HAT.out _ _ _ _ _ _ _ _ _ _ _ _ h2
     cases hg'
     rw [hcut.out] at h2
     have HC3 := hid (lents_any W2 w.heap.size O2 w.heap.size _ ps2 pm2 as2 am2 es em _ _ p P2 A2 E (nx + 1 + 1) h2 (by omega) (by omega))
     rw [← hcut.out] at HC3
     have HB2 := hid (HB1.out.trans hb2)
     clear hb2 h2 HB1
     go_wp2_with fail
     refine HC3.out.mono ?_
     rintro e W3 ⟨rfl, O3, es3, em3, E3, h3, hl3, hb3⟩
     have HS3 := hid h3
     have HB3 := hid (HB2.out.trans hb3)
     clear d0 d1 HC3 h3 hb3 HB2 HAT hcut
     go_wp2
     go_roundw
     case rel => exact ⟨j + 1, O3, ps2, pm2, as2, am2, es3, em3, P2, A2, E3, nx + 1 + 1 + 1, hlt2, by go_num, HS3.out, HB3.out, by omega, by omega, by omega, by omega⟩
     case measure => simp [intOf]; omega
    ·have HC := hid (llooks_any wr _ _ _ _ _ _ _ _ _ _ prs P A E nx hS (by omega) (by omega) (by omega))
     have HB := hid hb
     clear hS hb
     go_wp2_with (go_at_call 41; refine HC.out.mono ?_; rintro e w' ⟨rfl, n, rfl⟩)
     go_ret
     exact ⟨rfl, below_drewN HB.out n⟩
end Go.Proofs.YtefdokkadckbbaaGreatDoor
