/- Ri Rj Rk Rl -/
import Derived.Test.YtefdokkadckbbaaGreatDoorZ36
import Derived.Test.YtefdokkadckbbaaGreatDoorZ37
import Derived.Test.YtefdokkadckbbaaGreatDoorZ40
import Derived.Test.YtefdokkadckbbaaGreatDoorZ41
section
namespace Go.Proofs.YtefdokkadckbbaaGreatDoor
open Go.RowKit
set_option maxRecDepth 100000
set_option maxHeartbeats 4000000 in
theorem lents_any (W : World) (base : Nat) (O : Nat → Prop) (B : Nat) (vl ps pm as_ am es em : Value) (X Y : List Pr) (p : Pr) (P A E : List Ent) (nx : Nat) (h : LawS W base O B vl ps pm as_ am es em (X ++ p :: Y) P A E nx) (hL : E.length ≤ 16777216) (hnx : nx ≤ 16777216) :
  Calls Tryz.prog 40 #[.pointer (some ⟨B, 0, none⟩), .pointer (some ⟨p.pb, 0, none⟩)] W fun e W' => e = .returned (.bool true) ∧ ∃ (O' : Nat → Prop) (es' em' : Value) (E' : List Ent), LawS W' base O' B vl ps pm as_ am es' em' (X ++ p :: Y) P A E' (nx + 1) ∧ E'.length = E.length + 4 ∧ Below base W W' := by
 have hpm : p ∈ X ++ p :: Y := List.mem_append_right _ List.mem_cons_self
 have hp := h.ok p hpm
 have hS := hid (entries_any p.x p.F p.s W hp.pr)
 obtain ⟨qs, vh, vt, vsn, vrp, rid, hC, _⟩ := hp.rr.ex
 have hres := hC.res
 have cx0 : W.cell? ⟨p.pb, 0, none⟩ = some (.pointer (some ⟨p.x, 0, none⟩)) := by rw [cell_blk hp.pair]; rfl
 have cy0 : W.cell? ⟨p.pb, 1, none⟩ = some (.pointer (some ⟨p.y, 0, none⟩)) := by rw [cell_blk hp.pair]; rfl
 have y50 : W.cell? ⟨p.y, 5, none⟩ = some (.slice none 0 0) := by rw [cell_blk hres]; rfl
 have ly : p.y < W.heap.size := (Array.getElem?_eq_some_iff.1 hres).1
 have lpb : p.pb < W.heap.size := (Array.getElem?_eq_some_iff.1 hp.pair).1
 have HLOW : Hid (∀ w1, Below W.heap.size W w1 → Calls Tryz.prog 88 #[.pointer (some ⟨B, 1, none⟩), .slice none 0 0] w1 fun e W' => e = .returned (.tuple #[]) ∧ ∃ (O' : Nat → Prop) (es' em' : Value) (E' : List Ent), LawS W' base O' B vl ps pm as_ am es' em' (X ++ p :: Y) P A E' (nx + 1) ∧ E'.length = E.length + 4 ∧ Below base W W') := by
  intro w1 hb1
  have hLm := h.below hb1
  have hrv := hLm.le.rv
  have hrm := hLm.le.rm
  have hbox := hLm.box
  obtain ⟨pa, pc, e1⟩ := own_val' hrv
  obtain ⟨ma, mc, e2⟩ := own_val' hrm
  rw [e1] at hrv hbox
  rw [e2] at hrm hbox
  refine (ownE_any w1 B vl (.slice none 0 0) (.slice none 0 0) ps pm as_ am pa ma none pc mc 0 E.length 0 nx _ _ _ hbox hrv hrm (World.ownsRow_nil _ _ _ _) (by decide) hL hnx rfl).mono ?_
  rintro e W' ⟨rfl, gr, cr, gm, cm, g1, d1, g2, d2, g3, d3, b1, b2, b3, b4, b5, b6, b7, b8, b9, b10⟩
  obtain ⟨O', hS', hB'⟩ := hLm.tookE (l := .slice none 0 0) (N := 0) (by decide) (fun j ej => by simp [Value.ownBlock] at ej)
   (l1 := .slice (some ⟨g1, 0, none⟩) (0 + 1) d1) (l2 := .slice (some ⟨g2, 0, none⟩) (0 + 2) d2) (l3 := .slice (some ⟨g3, 0, none⟩) (0 + 3) d3) b1 b2 b3 b4 (by rw [e1, e2]; exact b5)
   (fun j ej => by obtain rfl : gr = j := by simpa [Value.ownBlock] using ej
                   rw [e1]; exact b6)
   (fun j ej => by obtain rfl : gm = j := by simpa [Value.ownBlock] using ej
                   rw [e2]; exact b7)
   (fun j ej => by obtain rfl : g1 = j := by simpa [Value.ownBlock] using ej
                   exact b8)
   (fun j ej => by obtain rfl : g2 = j := by simpa [Value.ownBlock] using ej
                   exact b9)
   (fun j ej => by obtain rfl : g3 = j := by simpa [Value.ownBlock] using ej
                   exact b10)
  exact ⟨rfl, O', _, _, _, hS', by simp, (hb1.mono (by have := h.base.1 B h.own.1; have := h.lt B h.own.1; omega)).trans hB'⟩
 clear h hp hC hres
 go_enter Tryz.func40, Tryz.ntmps40
 go_wp2_with fail
 refine hS.out.mono ?_
 rintro e w1 ⟨rfl, h2⟩
 have HO := hid (HLOW.out w1 h2)
 have cy : w1.cell? ⟨p.pb, 1, none⟩ = some (.pointer (some ⟨p.y, 0, none⟩)) := (h2.cell (p := ⟨p.pb, 1, none⟩) lpb).trans cy0
 have y5 : w1.cell? ⟨p.y, 5, none⟩ = some (.slice none 0 0) := (h2.cell (p := ⟨p.y, 5, none⟩) ly).trans y50
 have hQ := hid (qentries_none p.y w1 y5)
 clear HLOW hS cx0 cy0 y50 h2
 go_wp2_with (go_at_call 86; refine hQ.out.mono ?_; rintro e w2 ⟨rfl, hw2⟩; have hw3 := hw2.symm; clear hw2; subst hw3)
 refine wp_loop_rounds 1 ?_
 rw [rounds_succ]
 go_wp2_with (go_at_call 88; refine HO.out.mono ?_; rintro e w3 ⟨rfl, hE⟩)
 go_ret
 exact ⟨rfl, hE⟩
end Go.Proofs.YtefdokkadckbbaaGreatDoor
end
section
namespace Go.Proofs.YtefdokkadckbbaaGreatDoor
open Go.RowKit
set_option maxRecDepth 100000
theorem info101 : (Tryz.prog.info? 101).map (fun i => (i.zero, i.size, i.bytes)) = some (some (.pointer none), 1, 8) := by kernel_rfl
theorem u90 : Tryz.prog.underlying 90 = some (.slice 101) := by kernel_rfl
def LentN (base : Nat) (W : World) (a a' : Option Addr) (c' : Nat) (hs : List Int) : Prop :=
 (a = none ∧ a' = none ∧ c' = 0 ∧ hs = []) ∨ ((∃ ad, a = some ad) ∧ ∃ g, a' = some ⟨g, 0, none⟩ ∧ c' = hs.length + 2 ∧ base ≤ g ∧ g < W.heap.size ∧ W.heap[g]? = some (.cells (icells hs ++ icells [-7, -8]).toArray 3 (0, 0)))
theorem LentN.own {base : Nat} {W : World} {a a' : Option Addr} {c' : Nat} {hs : List Int} (h : LentN base W a a' c' hs) (hN : hs.length ≤ 1048576) : W.ownsRow 0 3 1 (.slice a' hs.length c') hs.length (icells hs) := by
 rcases h with ⟨_, rfl, rfl, rfl⟩ | ⟨_, g, rfl, rfl, _, _, hg⟩
 ·exact World.ownsRow_nil _ _ _ _
 ·refine ⟨icells_length hs, .inr ⟨g, _, _, rfl, Nat.zero_le _, hg, by omega, by unfold maxLen; omega, by simp [icells], ?_⟩⟩
  have e : hs.length * 1 = (icells hs).length := (icells_length hs).symm
  rw [e]
  simp
theorem lentN_any (a : Option Addr) (c : Nat) (hs : List Int) (w : World) (hN : hs.length ≤ 1048576) (hv : NumSl w (.slice a hs.length c) hs) :
  Calls Tryz.prog 71 #[.slice a hs.length c] w fun e w' => ∃ a' c', e = .returned (.slice a' hs.length c') ∧ LentN w.heap.size w' a a' c' hs ∧ Below w.heap.size w w' := by
 cases a with
 | none =>
  obtain ⟨a2, c2, hv2, hh⟩ := hv
  simp only [Value.slice.injEq, true_and] at hv2
  obtain ⟨rfl, rfl⟩ := hv2
  have hs0 : hs = [] := by
   rcases hh with h | ⟨g, o, h, _⟩
   ·exact h
   ·cases h
  subst hs0
  refine (lentN_nil _ _ w).mono ?_
  rintro e w' ⟨rfl, rfl⟩
  exact ⟨none, 0, rfl, .inl ⟨rfl, rfl, rfl, rfl⟩, Below.refl _ _⟩
 | some ad =>
  obtain ⟨a2, c2, hv2, hh⟩ := hv
  simp only [Value.slice.injEq, true_and] at hv2
  obtain ⟨rfl, rfl⟩ := hv2
  refine (lentN_some ad _ hs w hN (fun j v hj => ?_) (fun hne => ?_)).mono ?_
  ·rcases hh with rfl | ⟨g, o, h, h1, h2, h3⟩
   ·simp [icells] at hj
   ·simp only [Option.some.injEq] at h
    subst h
    simp only [icells, List.getElem?_map, Option.map_eq_some_iff] at hj
    obtain ⟨x, hx, rfl⟩ := hj
    rw [Addr.add_lit]
    exact h3 j x hx
  ·rcases hh with rfl | ⟨g, o, h, h1, h2, h3⟩
   ·exact absurd rfl hne
   ·simp only [Option.some.injEq] at h
    subst h
    exact h1
  ·rintro e w' ⟨rfl, h1, h2⟩
   exact ⟨_, _, rfl, .inr ⟨⟨ad, rfl⟩, w.heap.size, rfl, rfl, Nat.le_refl _, (Array.getElem?_eq_some_iff.1 h1).1, h1⟩, h2⟩
def NumLow (base : Nat) (a : Option Addr) (hs : List Int) : Prop := ∀ ad, a = some ad → hs ≠ [] → ad.block < base
theorem LawS.more {W W' : World} {base : Nat} {O : Nat → Prop} {B : Nat} {vl vl' ps pm as_ am es em : Value} {prs : List Pr} {P A E : List Ent} {nx : Nat} {q : Pr} (h : LawS W base O B vl ps pm as_ am es em prs P A E nx) (hK : Keeps (fun k => k = B ∨ vl.ownBlock = some k) W W') (hb : W'.heap[B]? = some (bookO vl' ps pm as_ am es em nx))
  (hrow : W'.ownsRow 0 101 1 vl' (prs.length + 1) ((prs.map fun p => Value.pointer (some ⟨p.pb, 0, none⟩)) ++ [.pointer (some ⟨q.pb, 0, none⟩)])) (hvl : ∀ k, vl'.ownBlock = some k → vl.ownBlock = some k ∨ W.heap.size ≤ k)
  (hq : PrOk W' q) (hqb : W.heap.size ≤ q.pb) (hqn : ∀ k, (q.F k ∨ q.G k) → ¬ O k ∧ (∀ p ∈ prs, ¬ (p.F k ∨ p.G k)) ∧ base ≤ k ∧ vl'.ownBlock ≠ some k ∧ k ≠ q.pb) :
  ∃ O', LawS W' base O' B vl' ps pm as_ am es em (prs ++ [q]) P A E nx ∧ Below base W W' := by
 have hz := hK.size
 obtain ⟨O', hOd⟩ : ∃ O' : Nat → Prop, O' = fun k => O k ∨ vl'.ownBlock = some k ∨ k = q.pb := ⟨_, rfl⟩
 have hO' : ∀ j, O j → O' j := fun j hj => by rw [hOd]; exact .inl hj
 have hkeep : ∀ j, O j → j ≠ B → vl.ownBlock ≠ some j → W'.heap[j]? = W.heap[j]? := fun j hj n1 n2 => hK.block j (h.lt j hj) (by
  rintro (e | e)
  ·exact n1 e
  ·exact n2 e)
 have hpk : ∀ p ∈ prs, ∀ j, (p.F j ∨ p.G j) → W'.heap[j]? = W.heap[j]? := fun p hp j hj => hK.block j ((h.ok p hp).lt j hj) (by
  have hd := h.dis.1 p hp j
  have hno : ¬ O j := fun ho => by
   rcases hj with h' | h'
   ·exact (hd ho).1 h'
   ·exact (hd ho).2 h'
  rintro (e | e)
  ·exact hno (e ▸ h.own.1)
  ·exact hno (h.own.2.1 j e))
 have st : ∀ {e ll : TypeId} {m : Int → List Value} {vs vm : Value} {L : List Ent}, Lists W O e ll m vs vm L → e ≠ 97 → e ≠ 101 → ll ≠ 97 → ll ≠ 101 → Lists W' O' e ll m vs vm L := fun {e ll m vs vm L} hq n1 n2 n3 n4 => by
  refine ⟨own_same hq.rv fun j ej => ?_, own_same hq.rm fun j ej => ?_, fun d hd => ⟨(hq.ent d hd).1.kept fun j c ej hc => ?_, (hq.ent d hd).2.1, fun j ej => hO' j ((hq.ent d hd).2.2 j ej)⟩, fun j ej => hO' j (hq.own.1 j ej), fun j ej => hO' j (hq.own.2 j ej)⟩
  ·obtain ⟨c, hc⟩ := own_blk hq.rv ej
   exact hkeep j (hq.own.1 j ej) (kind_ne hc h.box n3) (fun e' => own_far h.row hc (Ne.symm n4) e'.symm)
  ·obtain ⟨c, hc⟩ := own_blk hq.rm ej
   exact hkeep j (hq.own.2 j ej) (kind_ne hc h.box (by decide)) (fun e' => own_far h.row hc (by decide) e'.symm)
  ·exact hkeep j ((hq.ent d hd).2.2 j ej) (kind_ne hc h.box n1) (fun e' => own_far h.row hc (Ne.symm n2) e'.symm)
 have a1 := h.base.1 B h.own.1
 have a2 := h.lt B h.own.1
 refine ⟨O', ⟨hb, st h.lp (by decide) (by decide) (by decide) (by decide), st h.la (by decide) (by decide) (by decide) (by decide), st h.le (by decide) (by decide) (by decide) (by decide), h.apart, ?_, ⟨hO' _ h.own.1, fun j ej => by rw [hOd]; exact .inr (.inl ej), fun p hp => ?_⟩, fun p hp => ?_, ⟨fun p hp j hj => ?_, ?_⟩, fun j hj => ?_, fun j hj => ?_, fun p hp j hj => ?_⟩, ?_⟩
 ·rw [List.length_append, List.map_append]; exact hrow
 ·rcases List.mem_append.1 hp with hp | hp
  ·exact hO' _ (h.own.2.2 p hp)
  ·simp only [List.mem_singleton] at hp
   subst hp
   rw [hOd]; exact .inr (.inr rfl)
 ·rcases List.mem_append.1 hp with hp | hp
  ·have hc := (h.ok p hp).pair
   exact (h.ok p hp).same hz (hkeep _ (h.own.2.2 p hp) (kind_ne hc h.box (by decide)) (fun e' => own_far h.row hc (by decide) e'.symm)) (hpk p hp)
  ·simp only [List.mem_singleton] at hp
   subst hp
   exact hq
 ·rw [hOd] at hj
  rcases List.mem_append.1 hp with hp | hp
  ·have key : ¬ (p.F j ∨ p.G j) := fun hk => by
    rcases hj with h' | h' | h'
    ·rcases hk with hk | hk
     ·exact (h.dis.1 p hp j h').1 hk
     ·exact (h.dis.1 p hp j h').2 hk
    ·rcases hvl j h' with h'' | h''
     ·have := h.own.2.1 j h''
      rcases hk with hk | hk
      ·exact (h.dis.1 p hp j this).1 hk
      ·exact (h.dis.1 p hp j this).2 hk
     ·have := (h.ok p hp).lt j hk; omega
    ·have := (h.ok p hp).lt j hk; omega
   exact ⟨fun e => key (.inl e), fun e => key (.inr e)⟩
  ·simp only [List.mem_singleton] at hp
   subst hp
   have key : ¬ (p.F j ∨ p.G j) := fun hk => by
    obtain ⟨k1, _, _, k4, k5⟩ := hqn j hk
    rcases hj with h' | h' | h'
    ·exact k1 h'
    ·exact k4 h'
    ·exact k5 h'
   exact ⟨fun e => key (.inl e), fun e => key (.inr e)⟩
 ·rw [List.pairwise_append]
  refine ⟨h.dis.2, by simp, fun p hp r hr j hj => ?_⟩
  simp only [List.mem_singleton] at hr
  subst hr
  exact fun hk => (hqn j hk).2.1 p hp hj
 ·rw [hOd] at hj
  rcases hj with h' | h' | rfl
  ·exact Nat.lt_of_lt_of_le (h.lt j h') hz
  ·exact (hrow.lt j h').2
  ·exact (Array.getElem?_eq_some_iff.1 hq.pair).1
 ·rw [hOd] at hj
  rcases hj with h' | h' | rfl
  ·exact h.base.1 j h'
  ·rcases hvl j h' with h'' | h''
   ·exact h.base.1 j (h.own.2.1 j h'')
   ·omega
  ·omega
 ·rcases List.mem_append.1 hp with hp | hp
  ·exact h.base.2 p hp j hj
  ·simp only [List.mem_singleton] at hp
   subst hp
   exact (hqn j hj).2.2.1
 ·refine ⟨hK.os, hK.tape, hK.output, hz, fun j hj => hK.block j (by omega) ?_⟩
  rintro (e | e)
  ·omega
  ·have := h.base.1 j (h.own.2.1 j e); omega
end Go.Proofs.YtefdokkadckbbaaGreatDoor
end
section
namespace Go.Proofs.YtefdokkadckbbaaGreatDoor
open Go.RowKit
set_option maxRecDepth 100000
theorem stillN_two (base top : Nat) (a a' : Option Addr) (c c' : Nat) (hs : List Int) (w : World) (hN : hs.length ≤ 1048576) (hL : LentN base w a a' c' hs) (hv : NumSl w (.slice a hs.length c) hs) (hlow : ∀ ad, a = some ad → hs ≠ [] → ad.block < base) (htop : ∀ g, a' = some ⟨g, 0, none⟩ → g < top) :
  Calls Tryz.prog 73 #[.slice a' hs.length c', .slice a hs.length c] w fun e w' => e = .returned (.bool true) ∧ Below base w w' ∧ ∀ j, top ≤ j → j < w.heap.size → w'.heap[j]? = w.heap[j]? := by
 rcases hL with ⟨rfl, rfl, rfl, rfl⟩ | ⟨⟨ad, rfl⟩, g, rfl, rfl, h1, h2, h3⟩
 ·refine (stillN_nil _ _ _ w).mono ?_
  rintro e w' ⟨rfl, rfl⟩
  exact ⟨rfl, Below.refl _ _, fun _ _ _ => rfl⟩
 ·refine (stillN_some g ad c hs w hN h3 hv (fun hs0 => by have := hlow ad rfl hs0; omega)).mono ?_
  rintro e w' ⟨rfl, hK⟩
  have := htop g rfl
  exact ⟨rfl, ⟨hK.os, hK.tape, hK.output, hK.size, fun k hk => hK.block k (by omega) (by omega)⟩, fun j h1 h2 => hK.block j h2 (by omega)⟩
set_option maxHeartbeats 4000000 in
theorem lmade_any (W : World) (base : Nat) (O : Nat → Prop) (B : Nat) (vl ps pm as_ am es em : Value) (prs : List Pr) (P A E : List Ent) (nx : Nat) (a : Option Addr) (c : Nat) (hs : List Int) (en tr pa mx : Int) (h : LawS W base O B vl ps pm as_ am es em prs P A E nx) (hG : Good W) (hv : NumSl W (.slice a hs.length c) hs) (hlow : NumLow W.heap.size a hs) (hN : hs.length ≤ 1048576) (hpl : prs.length ≤ 16777216) :
  Calls Tryz.prog 36 #[.pointer (some ⟨B, 0, none⟩), .agg #[.slice a hs.length c, .int .i64 en, .int .i64 tr, .int .i64 pa, .int .i64 mx]] W fun e W' => e = .returned (.bool true) ∧ ∃ (O' : Nat → Prop) (vl' : Value) (prs' : List Pr), LawS W' base O' B vl' ps pm as_ am es em prs' P A E nx ∧ Below base W W' ∧ ((cfgOk hs en tr pa mx = false ∧ prs' = prs) ∨ (cfgOk hs en tr pa mx = true ∧ ∃ q, prs' = prs ++ [q] ∧ q.s = newRs hs en tr pa mx ∧ q.t = newRs hs en tr pa mx)) := by
 have lbB := h.base.1 B h.own.1
 have ltB := h.lt B h.own.1
 obtain ⟨k0, hk0, hx0, hx1, hx2⟩ := info_parts info101
 have hu90 := u90
 obtain ⟨va, vc, rfl⟩ := own_val' h.row
 go_enter Tryz.func36, Tryz.ntmps36
 go_wp2_with fail
 obtain ⟨Wa, hWa, x1, x2, x3, x4⟩ := allocs2 W (.cells #[.slice a hs.length c, .int .i64 en, .int .i64 tr, .int .i64 pa, .int .i64 mx] 30) (.cells #[.slice a hs.length c, .int .i64 en, .int .i64 tr, .int .i64 pa, .int .i64 mx] 30)
 rw [hWa]
 have hva := hv.below x4
 refine (lentN_any a c hs Wa hN hva).mono ?_
 rintro e w1 ⟨a', c', rfl, hL1, hb1⟩
 have z1 := hb1.size
 have e1 := (hb1.block _ (by omega)).trans x1
 have e2 := (hb1.block _ (by omega)).trans x2
 obtain ⟨f0, f1, f2, f3, f4⟩ := qcells5 e2
 have ff : ∀ k, w1.frozen? ⟨W.heap.size + 1, k, none⟩ = false := fun k => frozen_of_row w1 _ k _ 30 e2
 obtain ⟨W2, hW2⟩ : ∃ W2, w1.setCell ⟨W.heap.size + 1, 0, none⟩ (.slice a' hs.length c') = W2 := ⟨_, rfl⟩
 have z2 : W2.heap.size = w1.heap.size := by rw [← hW2]; simp
 have hs2 : ∀ j, j ≠ W.heap.size + 1 → W2.heap[j]? = w1.heap[j]? := fun j hj => by rw [← hW2]; exact Below.heap_setCell _ _ _ _ hj
 have i1 : W2.heap[W.heap.size]? = some (.cells #[.slice a hs.length c, .int .i64 en, .int .i64 tr, .int .i64 pa, .int .i64 mx] 30 (0, 0)) := (hs2 _ (by omega)).trans e1
 have i2 : W2.heap[W.heap.size + 1]? = some (.cells #[.slice a' hs.length c', .int .i64 en, .int .i64 tr, .int .i64 pa, .int .i64 mx] 30 (0, 0)) := by
  rw [← hW2]
  have := heap_setCell_same w1 (W.heap.size + 1) 0 _ 30 (.slice a' hs.length c') e2
  simpa using this
 have hL2 : LentN Wa.heap.size W2 a a' c' hs := by
  rcases hL1 with h' | ⟨h', g, q1, q2, q3, q4, q5⟩
  ·exact .inl h'
  ·exact .inr ⟨h', g, q1, q2, q3, by omega, (hs2 g (by omega)).trans q5⟩
 have hBW2 : Below W.heap.size W W2 := by rw [← hW2]; exact (x4.trans (hb1.mono (by omega))).set (by omega) 0 _
 have hG2 : Good W2 := hG.below hBW2
 have hv2 := hv.below hBW2
 have HNEW := hid (new_any _ hs en tr pa mx W2 (hL2.own hN) hG2 (by omega))
 have HREST : Hid (∀ w2, Below W2.heap.size W2 w2 → Calls Tryz.prog 72 #[.agg #[.slice a hs.length c, .int .i64 en, .int .i64 tr, .int .i64 pa, .int .i64 mx]] w2 fun e w' => Below w2.heap.size w2 w' ∧ (cfgOk hs en tr pa mx = false → e = .returned (.tuple #[.pointer none, .int .i64 1])) ∧ (cfgOk hs en tr pa mx = true → ∃ y F, e = .returned (.tuple #[.pointer (some ⟨y, 0, none⟩), .int .i64 0]) ∧ RRs w' F y (newRs hs en tr pa mx) ∧ ∀ j, F j → w2.heap.size ≤ j)) := fun w2 hb => qnew_any _ hs en tr pa mx w2 (hv.below (hBW2.trans (hb.mono (by omega)))) (by omega)
 have HCELL : Hid (∀ w2, Below W2.heap.size W2 w2 → (w2.cell? ⟨W.heap.size, 0, none⟩ = some (.slice a hs.length c) ∧ w2.cell? ⟨W.heap.size, 1, none⟩ = some (.int .i64 en) ∧ w2.cell? ⟨W.heap.size, 2, none⟩ = some (.int .i64 tr) ∧ w2.cell? ⟨W.heap.size, 3, none⟩ = some (.int .i64 pa) ∧ w2.cell? ⟨W.heap.size, 4, none⟩ = some (.int .i64 mx)) ∧ w2.cell? ⟨W.heap.size + 1, 0, none⟩ = some (.slice a' hs.length c')) := fun w2 hb => ⟨qcells5 ((hb.block _ (by omega)).trans i1), (qcells5 ((hb.block _ (by omega)).trans i2)).1⟩
 have HST : Hid (∀ w3, Below W2.heap.size W2 w3 → Calls Tryz.prog 73 #[.slice a' hs.length c', .slice a hs.length c] w3 fun e w' => e = .returned (.bool true) ∧ Below Wa.heap.size w3 w' ∧ ∀ j, W2.heap.size ≤ j → j < w3.heap.size → w'.heap[j]? = w3.heap[j]?) := by
  intro w3 hb
  have hL3 : LentN Wa.heap.size w3 a a' c' hs := by
   rcases hL2 with h' | ⟨h', g, q1, q2, q3, q4, q5⟩
   ·exact .inl h'
   ·exact .inr ⟨h', g, q1, q2, q3, by have := hb.size; omega, (hb.block g (by omega)).trans q5⟩
  have hlw : ∀ ad, a = some ad → hs ≠ [] → ad.block < Wa.heap.size := fun ad h1 h2 => by have := hlow ad h1 h2; omega
  exact stillN_two Wa.heap.size W2.heap.size a a' c c' hs w3 hN hL3 (hv.below (hBW2.trans (hb.mono (by omega)))) hlw (by
   rcases hL2 with ⟨_, h', _⟩ | ⟨h', g, q1, q2, q3, q4, q5⟩
   ·exact fun g hg => by rw [h'] at hg; cases hg
   ·exact fun g' hg => by rw [q1] at hg; simp at hg; omega)
 obtain ⟨j0, j1, j2, j3, j4⟩ := qcells5 i2
 have HB2 := hid hBW2
 have HZ2 : Hid (W2.heap.size = w1.heap.size ∧ Wa.heap.size ≤ w1.heap.size ∧ Wa.heap.size = W.heap.size + 2) := ⟨z2, z1, x3⟩
 clear hWa x1 x2 x3 x4 hva hb1 e1 e2 hs2 i1 hL1 hL2 hBW2 hG2 hv2 z1 z2 i2
 go_wp2_with fail
 refine HNEW.out.mono ?_
 rintro e w2 ⟨hb2, hF2, hT2⟩
 have hz2 := hb2.size
 obtain ⟨⟨m0, m1, m2, m3, m4⟩, m5⟩ := HCELL.out w2 hb2
 cases hok : cfgOk hs en tr pa mx with
 | false =>
  have he := hF2 hok
  subst he
  clear hF2 hT2
  go_wp2_with fail
  refine (HREST.out w2 hb2).mono ?_
  rintro e w3 ⟨hb3, hF3, _⟩
  have he := hF3 hok
  subst he
  have hb23 : Below W2.heap.size W2 w3 := hb2.trans (hb3.mono hz2)
  obtain ⟨⟨n0, _⟩, n5⟩ := HCELL.out w3 hb23
  have hz3 := hb23.size
  clear hF3 m0 m1 m2 m3 m4 m5
  go_wp2_with fail
  refine (HST.out w3 hb23).mono ?_
  rintro e w4 ⟨rfl, hb4, _⟩
  have hB4 : Below W.heap.size W w4 := (HB2.out.trans (hb23.mono (by have := HZ2.out; omega))).trans (hb4.mono (by have := HZ2.out; omega))
  have hE := hid (h.below hB4)
  have HB4 := hid hB4
  clear hB4 hb4 hb3 hb2 hb23 n0 n5 h
  go_wp2_with (first | (go_at_call_of 74 (Value.int .i64 1); refine (num_any 1 _).mono ?_; rintro e w5 ⟨rfl, hw5⟩; have hw6 := hw5.symm; clear hw5; subst hw6))
  go_ret
  exact ⟨rfl, O, _, prs, hE.out, HB4.out.mono (by omega), .inl ⟨hok, rfl⟩⟩
 | true =>
  obtain ⟨x, F, he, hP2, hF2'⟩ := hT2 hok
  subst he
  clear hF2 hT2
  go_wp2_with fail
  refine (HREST.out w2 hb2).mono ?_
  rintro e w3 ⟨hb3, _, hT3⟩
  obtain ⟨y, G, he, hR3, hG3⟩ := hT3 hok
  subst he
  have hb23 : Below W2.heap.size W2 w3 := hb2.trans (hb3.mono hz2)
  obtain ⟨⟨n0, _⟩, n5⟩ := HCELL.out w3 hb23
  have hz3 := hb23.size
  clear hT3 m0 m1 m2 m3 m4 m5
  go_wp2_with fail
  refine (HST.out w3 hb23).mono ?_
  rintro e w4 ⟨rfl, hb4, hk4⟩
  have hz4 := hb4.size
  have hz3b := hb3.size
  have hB4 : Below W.heap.size W w4 := (HB2.out.trans (hb23.mono (by have := HZ2.out; omega))).trans (hb4.mono (by have := HZ2.out; omega))
  have hL4 := h.below hB4
  have hP4 : PRs w4 F x (newRs hs en tr pa mx) := hP2.same (by omega) fun j hj => by
   have h1 := hF2' j hj
   have h2 := hP2.lt j hj
   rw [hk4 j h1 (by omega)]
   exact hb3.block j h2
  have hR4 : RRs w4 G y (newRs hs en tr pa mx) := hR3.same (by omega) fun j hj => hk4 j (by have := hG3 j hj; omega) (hR3.lt j hj)
  have hFG : ∀ j, F j → ¬ G j := fun j h1 h2 => by have := hP2.lt j h1; have := hG3 j h2; omega
  have c0 : w4.cell? ⟨B, 0, none⟩ = some (.slice va prs.length vc) := by rw [cell_blk hL4.box]; rfl
  have lB4 := hL4.lt B hL4.own.1
  have HEND : Hid (∀ o w6 g6 c6, w6.ownsRow 0 101 1 (.slice (some ⟨g6, 0, none⟩) (prs.length + 1) c6) (prs.length + 1) ((prs.map fun p => Value.pointer (some ⟨p.pb, 0, none⟩)) ++ [.pointer (some ⟨w4.heap.size, 0, none⟩)]) → Lies ((w4.alloc (.cells #[.pointer (some ⟨x, 0, none⟩), .pointer (some ⟨y, 0, none⟩)] 154)).alloc o) w6 (.slice va prs.length vc) g6 →
    w6.cell? ⟨B, 0, none⟩ = some (.slice va prs.length vc) ∧ w6.frozen? ⟨B, 0, none⟩ = false ∧ ∃ (O' : Nat → Prop) (vl' : Value) (prs' : List Pr), LawS (w6.setCell ⟨B, 0, none⟩ (.slice (some ⟨g6, 0, none⟩) (prs.length + 1) c6)) base O' B vl' ps pm as_ am es em prs' P A E nx ∧ Below base W (w6.setCell ⟨B, 0, none⟩ (.slice (some ⟨g6, 0, none⟩) (prs.length + 1) c6)) ∧ ((cfgOk hs en tr pa mx = false ∧ prs' = prs) ∨ (cfgOk hs en tr pa mx = true ∧ ∃ q, prs' = prs ++ [q] ∧ q.s = newRs hs en tr pa mx ∧ q.t = newRs hs en tr pa mx))) := by
   intro o w6 g6 c6 r6 L6
   obtain ⟨Wp, hWp, y1, y2, y3, y4⟩ := allocs2 w4 (.cells #[.pointer (some ⟨x, 0, none⟩), .pointer (some ⟨y, 0, none⟩)] 154) o
   rw [hWp] at L6
   have hrowp : Wp.ownsRow 0 101 1 (.slice va prs.length vc) prs.length (prs.map fun p => Value.pointer (some ⟨p.pb, 0, none⟩)) := own_same hL4.row fun j ej => y4.block j (hL4.row.lt j ej).2
   have hf : ∀ (j : Nat) (cc : Array Value) (e : TypeId), e ≠ 101 → Wp.heap[j]? = some (.cells cc e (0, 0)) → w6.heap[j]? = some (.cells cc e (0, 0)) := fun j cc e he hc => (L6.1.block j (Array.getElem?_eq_some_iff.1 hc).1 (own_far hrowp hc he.symm)).trans hc
   have b6 := hf B _ 97 (by decide) ((y4.block B lB4).trans hL4.box)
   have p6 := hf w4.heap.size _ 154 (by decide) y1
   have hne : w4.heap.size ≠ B := by omega
   have hKw : Keeps (fun k => k = B ∨ (Value.slice va prs.length vc).ownBlock = some k) w4 (w6.setCell ⟨B, 0, none⟩ (.slice (some ⟨g6, 0, none⟩) (prs.length + 1) c6)) := ((keeps_of_below y4).grown L6.1 (fun j e => .inl (.inr e))).set (.inl (.inl rfl)) 0 _
   have hfar : ∀ j, j < w4.heap.size → ¬ O j → (w6.setCell ⟨B, 0, none⟩ (.slice (some ⟨g6, 0, none⟩) (prs.length + 1) c6)).heap[j]? = w4.heap[j]? := fun j hj hn => hKw.block j hj (by
    rintro (rfl | e)
    ·exact hn hL4.own.1
    ·exact hn (hL4.own.2.1 j e))
   have hnF : ∀ j, F j ∨ G j → ¬ O j ∧ (∀ p ∈ prs, ¬ (p.F j ∨ p.G j)) ∧ base ≤ j ∧ j < w4.heap.size := fun j hj => by
    have hlo : W.heap.size ≤ j := by
     have := HZ2.out
     rcases hj with hj | hj
     ·have := hF2' j hj; omega
     ·have := hG3 j hj; omega
    have hhi : j < w4.heap.size := by
     rcases hj with hj | hj
     ·exact hP4.lt j hj
     ·exact hR4.lt j hj
    exact ⟨fun ho => by have := h.lt j ho; omega, fun p hp hk => by have := (h.ok p hp).lt j hk; omega, by omega, hhi⟩
   have hz6 := hKw.size
   obtain ⟨O', hS', hB'⟩ := hL4.more (q := ⟨w4.heap.size, x, y, F, G, newRs hs en tr pa mx, newRs hs en tr pa mx⟩) hKw (vl' := .slice (some ⟨g6, 0, none⟩) (prs.length + 1) c6) (by
     rw [heap_setCell_same w6 B 0 _ 97 _ b6]
     simp) (own_same r6 fun j e => Below.heap_setCell _ _ _ _ (by rintro rfl; exact own_far r6 b6 (by decide) e.symm)) (fun j ej => by
     obtain rfl : g6 = j := by simpa [Value.ownBlock] using ej
     rcases L6.2.1 with h' | ⟨h', _⟩
     ·exact .inl h'
     ·exact .inr (by omega)) ⟨(Below.heap_setCell _ _ _ _ hne).trans p6, hP4.same hz6 fun j hj => hfar j (hP4.lt j hj) (hnF j (.inl hj)).1, hR4.same hz6 fun j hj => hfar j (hR4.lt j hj) (hnF j (.inr hj)).1, hFG⟩ (Nat.le_refl _) (fun j hj => by
     obtain ⟨q1, q2, q3, q4⟩ := hnF j hj
     refine ⟨q1, q2, q3, fun ej => ?_, by show j ≠ w4.heap.size; omega⟩
     obtain rfl : g6 = j := by simpa [Value.ownBlock] using ej
     rcases L6.2.1 with h' | ⟨h', _⟩
     ·exact q1 (hL4.own.2.1 _ h')
     ·omega)
   exact ⟨by rw [cell_blk b6]; rfl, frozen_of_row _ B 0 _ 97 b6, O', _, _, hS', (hB4.mono (by omega)).trans hB', .inr ⟨hok, _, rfl, rfl, rfl⟩⟩
  have hrow4 := hL4.row
  have c0a : ∀ o, (w4.alloc o).cell? ⟨B, 0, none⟩ = some (.slice va prs.length vc) := fun o => by rw [cell_blk ((Below.heap_alloc w4 o B lB4).trans hL4.box)]; rfl
  clear hB4 hb4 hb3 hb2 hb23 n0 n5 h hL4 hP4 hR4 hk4 hP2 hR3 hFG hF2' hG3
  go_wp2_with (first
   | (go_at_call_of 74 (Value.int .i64 0); refine (num_any 0 _).mono ?_; rintro e w5 ⟨rfl, hw5⟩; have hw6 := hw5.symm; clear hw5; subst hw6)
   | (at_builtin; refine wpList_append_two _ rfl _ _ 90 rfl 0 101 k0 (.pointer none) 1 8 hu90 hk0 hx0 hx1 hx2 rfl _ _ _ rfl ((hrow4.alloc _).alloc _) ⟨w4.heap.size + 1, 0, none⟩ 1 1 [.pointer (some ⟨w4.heap.size, 0, none⟩)] rfl rfl (by have := Go.heap_alloc_new (w4.alloc (.cells #[.pointer (some ⟨x, 0, none⟩), .pointer (some ⟨y, 0, none⟩)] 154)) (.cells #[.pointer (some ⟨w4.heap.size, 0, none⟩)] 101); rw [World.size_alloc] at this; exact World.news_of_block this) (by intro u hu; simp at hu; rw [hu]; rfl) (by decide) (by unfold maxLen; omega) (by omega) (Nat.zero_le _) ?_))
  intro g6 c6 w6 r6 o6 L6
  obtain ⟨d1, d2, d3⟩ := HEND.out _ w6 g6 c6 r6 L6
  have HD3 := hid d3
  clear r6 o6 L6 d3 hrow4
  go_wp2
  go_ret
  exact ⟨rfl, HD3.out⟩
end Go.Proofs.YtefdokkadckbbaaGreatDoor
end
section
namespace Go.Proofs.YtefdokkadckbbaaGreatDoor
open Go.RowKit
set_option maxRecDepth 100000
theorem rowl_at {W : World} {b e n : Nat} {v : Value} {xs : List Value} (h : W.ownsRow b e 1 v n xs) : ∃ a c, v = .slice a n c ∧ ∀ (k : Nat) (u : Value), xs[k]? = some u → ∃ g, a = some ⟨g, 0, none⟩ ∧ W.cell? ⟨g, k, none⟩ = some u := by
 rcases h.2 with ⟨h1, h2⟩ | ⟨g, cap, cur, h1, _⟩
 ·refine ⟨none, 0, by rw [h1, h2], fun k u hk => ?_⟩
  have hl := h.1
  have := (List.getElem?_eq_some_iff.1 hk).1
  omega
 ·subst h1
  exact ⟨_, _, rfl, fun k u hk => ⟨g, rfl, own_cell h hk⟩⟩
theorem mark_atK {W : World} {e : TypeId} {m : List Value} {v : Value} {n : Nat} (h : MarkK W e m v n) : ∃ a c, v = .slice a n c ∧ ∀ j, j < n → ∃ g, a = some ⟨g, 0, none⟩ ∧ ∀ i u, m[i]? = some u → W.cell? ⟨g, j * m.length + i, none⟩ = some u := by
 rcases h with ⟨h1, h2⟩ | ⟨g, cap, cur, h1, hg, ht⟩
 ·exact ⟨none, 0, by rw [h1, h2], fun j hj => by omega⟩
 ·refine ⟨_, _, h1, fun j hj => ⟨g, rfl, fun i u hu => ?_⟩⟩
  have hi := (List.getElem?_eq_some_iff.1 hu).1
  have hlt : j * m.length + i < n * m.length := by
   have := Nat.mul_le_mul_right m.length (show j + 1 ≤ n from hj)
   rw [Nat.add_mul] at this
   omega
  rw [cell_blk hg]
  have e1 : cur.toList[j * m.length + i]? = (mks m n)[j * m.length + i]? := by
   rw [← ht, List.getElem?_take, if_pos hlt]
  rw [← Array.getElem?_toList, e1]
  have e2 : mks m n = mks m j ++ (m ++ mks m (n - (j + 1))) := by
   have e3 : n = j + (1 + (n - (j + 1))) := by omega
   have e4 : mks m n = mks m (j + (1 + (n - (j + 1)))) := congrArg (mks m) e3
   rw [e4, mks_add, mks_add, mks_one]
  rw [e2, List.getElem?_append_right (by rw [mks_length]; omega), mks_length, Nat.add_sub_cancel_left, List.getElem?_append_left hi]
  exact hu
theorem markP_at {W : World} {x : Int} {v : Value} {n : Nat} (h : MarkK W 105 (mP x) v n) : ∃ a c, v = .slice a n c ∧ ∀ j, j < n → ∃ g, a = some ⟨g, 0, none⟩ ∧ W.cell? ⟨g, j * 2, none⟩ = some (.int .i64 x) ∧ W.cell? ⟨g, j * 2 + 1, none⟩ = some (.string ⟨#[]⟩) := by
 obtain ⟨a, c, hv, hh⟩ := mark_atK h
 refine ⟨a, c, hv, fun j hj => ?_⟩
 obtain ⟨g, hg, hc⟩ := hh j hj
 exact ⟨g, hg, hc 0 _ rfl, hc 1 _ rfl⟩
theorem markA_at {W : World} {x : Int} {v : Value} {n : Nat} (h : MarkK W 66 (mP x) v n) : ∃ a c, v = .slice a n c ∧ ∀ j, j < n → ∃ g, a = some ⟨g, 0, none⟩ ∧ W.cell? ⟨g, j * 2, none⟩ = some (.int .i64 x) ∧ W.cell? ⟨g, j * 2 + 1, none⟩ = some (.string ⟨#[]⟩) := by
 obtain ⟨a, c, hv, hh⟩ := mark_atK h
 refine ⟨a, c, hv, fun j hj => ?_⟩
 obtain ⟨g, hg, hc⟩ := hh j hj
 exact ⟨g, hg, hc 0 _ rfl, hc 1 _ rfl⟩
theorem markE_at {W : World} {x : Int} {v : Value} {n : Nat} (h : MarkK W 167 (mE x) v n) : ∃ a c, v = .slice a n c ∧ ∀ j, j < n → ∃ g, a = some ⟨g, 0, none⟩ ∧ W.cell? ⟨g, j * 5, none⟩ = some (.string ⟨#[]⟩) ∧ W.cell? ⟨g, j * 5 + 1, none⟩ = some (.int .i64 x) ∧ W.cell? ⟨g, j * 5 + 2, none⟩ = some (.int .i64 0) ∧ W.cell? ⟨g, j * 5 + 3, none⟩ = some (.int .i64 0) ∧ W.cell? ⟨g, j * 5 + 4, none⟩ = some (.slice none 0 0) := by
 obtain ⟨a, c, hv, hh⟩ := mark_atK h
 refine ⟨a, c, hv, fun j hj => ?_⟩
 obtain ⟨g, hg, hc⟩ := hh j hj
 exact ⟨g, hg, hc 0 _ rfl, hc 1 _ rfl, hc 2 _ rfl, hc 3 _ rfl, hc 4 _ rfl⟩
set_option maxHeartbeats 8000000 in
theorem llooks_any (W : World) (base : Nat) (O : Nat → Prop) (B : Nat) (vl ps pm as_ am es em : Value) (prs : List Pr) (P A E : List Ent) (nx : Nat) (h : LawS W base O B vl ps pm as_ am es em prs P A E nx) (hP : P.length ≤ 16777216) (hA : A.length ≤ 16777216) (hE : E.length ≤ 16777216) :
  Calls Tryz.prog 41 #[.pointer (some ⟨B, 1, none⟩)] W fun e w' => e = .returned (.bool true) ∧ ∃ n, w' = W.drewN n := by
 obtain ⟨psa, psc, e1, hsP⟩ := rowl_at h.lp.rv
 obtain ⟨pma, pmc, e2, hrP⟩ := rowl_at h.lp.rm
 obtain ⟨asa, asc, e3, hsA⟩ := rowl_at h.la.rv
 obtain ⟨ama, amc, e4, hrA⟩ := rowl_at h.la.rm
 obtain ⟨esa, esc, e5, hsE⟩ := rowl_at h.le.rv
 obtain ⟨ema, emc, e6, hrE⟩ := rowl_at h.le.rm
 have hbox := h.box
 rw [e1, e2, e3, e4, e5, e6] at hbox
 have d1 : W.cell? ⟨B, 1, none⟩ = some (.slice none 0 0) := by rw [cell_blk hbox]; rfl
 have d3 : W.cell? ⟨B, 3, none⟩ = some (.slice psa P.length psc) := by rw [cell_blk hbox]; rfl
 have d4 : W.cell? ⟨B, 4, none⟩ = some (.slice pma P.length pmc) := by rw [cell_blk hbox]; rfl
 have d5 : W.cell? ⟨B, 5, none⟩ = some (.slice asa A.length asc) := by rw [cell_blk hbox]; rfl
 have d6 : W.cell? ⟨B, 6, none⟩ = some (.slice ama A.length amc) := by rw [cell_blk hbox]; rfl
 have d7 : W.cell? ⟨B, 7, none⟩ = some (.slice esa E.length esc) := by rw [cell_blk hbox]; rfl
 have d8 : W.cell? ⟨B, 8, none⟩ = some (.slice ema E.length emc) := by rw [cell_blk hbox]; rfl
 have HSP := hid hsP
 have HRP := hid hrP
 have HSA := hid hsA
 have HRA := hid hrA
 have HSE := hid hsE
 have HRE := hid hrE
 have HEP : Hid (∀ e ∈ P, MarkK W 105 (mP e.x) e.v e.n ∧ e.n ≤ 33554440) := fun e he => ⟨(h.lp.ent e he).1, (h.lp.ent e he).2.1⟩
 have HEA : Hid (∀ e ∈ A, MarkK W 66 (mP e.x) e.v e.n ∧ e.n ≤ 33554440) := fun e he => ⟨(h.la.ent e he).1, (h.la.ent e he).2.1⟩
 have HEE : Hid (∀ e ∈ E, MarkK W 167 (mE e.x) e.v e.n ∧ e.n ≤ 33554440) := fun e he => ⟨(h.le.ent e he).1, (h.le.ent e he).2.1⟩
 clear hsP hrP hsA hrA hsE hrE h hbox e1 e2 e3 e4 e5 e6
 go_enter Tryz.func41, Tryz.ntmps41
 go_wp2
 refine wp_loop_rounds 1 ?_
 rw [rounds_succ]
 go_wp2
 go_loopw [5] (fun i wr => ∃ k n : Nat, k ≤ P.length ∧ i = .int .i64 k ∧ wr = W.drewN n) (fun i _ => P.length - (intOf i).toNat)
 case atStart => exact ⟨0, 0, Nat.zero_le _, rfl, rfl⟩
 case round =>
  obtain ⟨k, nP, hk, rfl, rfl⟩ := hrel
  by_cases hlt : k < P.length
  ·obtain ⟨e, he⟩ : ∃ e, P[k]? = some e := ⟨P[k], List.getElem?_eq_getElem hlt⟩
   obtain ⟨g, rfl, c1⟩ := HSP.out k e.v (by rw [List.getElem?_map, he]; rfl)
   obtain ⟨g', rfl, c2⟩ := HRP.out k (.int .i64 e.x) (by rw [List.getElem?_map, he]; rfl)
   obtain ⟨hmk, hn64⟩ := HEP.out e (List.mem_of_getElem? he)
   obtain ⟨a, c, hv, hat⟩ := markP_at hmk
   rw [hv] at c1
   have HA := hid hat
   clear hat hmk hv he
   go_wp2
   go_loopw [6] (fun i wr => ∃ j n : Nat, j ≤ e.n ∧ i = .int .i64 j ∧ wr = W.drewN n) (fun i _ => e.n - (intOf i).toNat)
   case atStart => exact ⟨0, nP, Nat.zero_le _, rfl, rfl⟩
   case round =>
    obtain ⟨j, nn, hj, rfl, rfl⟩ := hrel
    by_cases hlj : j < e.n
    ·obtain ⟨ge, rfl, m0, m1⟩ := HA.out j hlj
     go_wp2
     go_quiet (fail)
     go_wp2
     go_roundw
     case rel => exact ⟨j + 1, nn + nq, hlj, by go_num, rfl⟩
     case measure => simp [intOf]; omega
    ·go_wp2
     go_roundw
     case rel => exact ⟨k + 1, nn, hlt, by go_num, rfl⟩
     case measure => simp [intOf]; omega
  ·clear HSP HRP HEP
   go_wp2
   go_loopw [7] (fun i wr => ∃ k n : Nat, k ≤ A.length ∧ i = .int .i64 k ∧ wr = W.drewN n) (fun i _ => A.length - (intOf i).toNat)
   case atStart => exact ⟨0, nP, Nat.zero_le _, rfl, rfl⟩
   case round =>
    obtain ⟨k, nA, hk, rfl, rfl⟩ := hrel
    by_cases hlt : k < A.length
    ·obtain ⟨e, he⟩ : ∃ e, A[k]? = some e := ⟨A[k], List.getElem?_eq_getElem hlt⟩
     obtain ⟨g, rfl, c1⟩ := HSA.out k e.v (by rw [List.getElem?_map, he]; rfl)
     obtain ⟨g', rfl, c2⟩ := HRA.out k (.int .i64 e.x) (by rw [List.getElem?_map, he]; rfl)
     obtain ⟨hmk, hn64⟩ := HEA.out e (List.mem_of_getElem? he)
     obtain ⟨a, c, hv, hat⟩ := markA_at hmk
     rw [hv] at c1
     have HA := hid hat
     clear hat hmk hv he
     go_wp2
     go_loopw [8] (fun i wr => ∃ j n : Nat, j ≤ e.n ∧ i = .int .i64 j ∧ wr = W.drewN n) (fun i _ => e.n - (intOf i).toNat)
     case atStart => exact ⟨0, nA, Nat.zero_le _, rfl, rfl⟩
     case round =>
      obtain ⟨j, nn, hj, rfl, rfl⟩ := hrel
      by_cases hlj : j < e.n
      ·obtain ⟨ge, rfl, m0, m1⟩ := HA.out j hlj
       go_wp2
       go_quiet (fail)
       go_wp2
       go_roundw
       case rel => exact ⟨j + 1, nn + nq, hlj, by go_num, rfl⟩
       case measure => simp [intOf]; omega
      ·go_wp2
       go_roundw
       case rel => exact ⟨k + 1, nn, hlt, by go_num, rfl⟩
       case measure => simp [intOf]; omega
    ·clear HSA HRA HEA
     go_wp2
     go_loopw [9] (fun i wr => ∃ k n : Nat, k ≤ E.length ∧ i = .int .i64 k ∧ wr = W.drewN n) (fun i _ => E.length - (intOf i).toNat)
     case atStart => exact ⟨0, nA, Nat.zero_le _, rfl, rfl⟩
     case round =>
      obtain ⟨k, nE, hk, rfl, rfl⟩ := hrel
      by_cases hlt : k < E.length
      ·obtain ⟨e, he⟩ : ∃ e, E[k]? = some e := ⟨E[k], List.getElem?_eq_getElem hlt⟩
       obtain ⟨g, rfl, c1⟩ := HSE.out k e.v (by rw [List.getElem?_map, he]; rfl)
       obtain ⟨g', rfl, c2⟩ := HRE.out k (.int .i64 e.x) (by rw [List.getElem?_map, he]; rfl)
       obtain ⟨hmk, hn64⟩ := HEE.out e (List.mem_of_getElem? he)
       obtain ⟨a, c, hv, hat⟩ := markE_at hmk
       rw [hv] at c1
       have HA := hid hat
       clear hat hmk hv he
       go_wp2
       go_loopw [10] (fun i wr => ∃ j n : Nat, j ≤ e.n ∧ i = .int .i64 j ∧ wr = W.drewN n) (fun i _ => e.n - (intOf i).toNat)
       case atStart => exact ⟨0, nE, Nat.zero_le _, rfl, rfl⟩
       case round =>
        obtain ⟨j, nn, hj, rfl, rfl⟩ := hrel
        by_cases hlj : j < e.n
        ·obtain ⟨ge, rfl, m0, m1, m2, m3, m4⟩ := HA.out j hlj
         go_wp2
         go_quiet (fail)
         go_wp2
         go_roundw
         case rel => exact ⟨j + 1, nn + nq, hlj, by go_num, rfl⟩
         case measure => simp [intOf]; omega
        ·go_wp2
         go_roundw
         case rel => exact ⟨k + 1, nn, hlt, by go_num, rfl⟩
         case measure => simp [intOf]; omega
      ·clear HSE HRE HEE
       go_wp2
       go_ret
       exact ⟨rfl, nE, rfl⟩
end Go.Proofs.YtefdokkadckbbaaGreatDoor
end
