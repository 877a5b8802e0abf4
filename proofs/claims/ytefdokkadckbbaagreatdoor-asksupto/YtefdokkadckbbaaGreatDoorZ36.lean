/- Rh -/
import Derived.Test.YtefdokkadckbbaaGreatDoorZ27
import Derived.Test.YtefdokkadckbbaaGreatDoorZ28
import Derived.Test.YtefdokkadckbbaaGreatDoorZ35
namespace Go.Proofs.YtefdokkadckbbaaGreatDoor
open Go.RowKit
set_option maxRecDepth 100000
theorem pcells_get {L : List (Int × ByteArray)} {i : Nat} {q : Int × ByteArray} (h : L[i]? = some q) : (pcells L)[i * 2]? = some (.int .i64 q.1) ∧ (pcells L)[i * 2 + 1]? = some (.string q.2) := by
 induction L generalizing i with
 | nil => simp at h
 | cons r l ih =>
  cases i with
  | zero =>
   simp only [List.getElem?_cons_zero, Option.some.injEq] at h
   subst h
   exact ⟨rfl, rfl⟩
  | succ i =>
   have := ih (by simpa using h)
   have e : pcells (r :: l) = [Value.int .i64 r.1, .string r.2] ++ pcells l := by simp [pcells]
   have f : ∀ j, (pcells (r :: l))[(i + 1) * 2 + j]? = (pcells l)[i * 2 + j]? := fun j => by
    rw [e, List.getElem?_append_right (by simp; omega)]
    congr 1
    simp only [List.length_cons, List.length_nil]
    omega
   exact ⟨(f 0).trans this.1, (f 1).trans this.2⟩
set_option maxHeartbeats 4000000 in
theorem lsent_any (W : World) (base : Nat) (O : Nat → Prop) (B : Nat) (vl ps pm as_ am es em : Value) (X Y : List Pr) (p : Pr) (P A E : List Ent) (nx : Nat) (k n : Nat) (f : Int) (h : LawS W base O B vl ps pm as_ am es em (X ++ p :: Y) P A E nx) (hok : RsOk p.s k n) (heq : p.t = p.s) (hn : n ≤ 33554432) (hL : P.length ≤ 16777216) (hnx : nx ≤ 16777216) :
  Calls Tryz.prog 38 #[.pointer (some ⟨B, 0, none⟩), .pointer (some ⟨p.pb, 0, none⟩), .int .i64 f] W fun e W' => e = .returned (.bool true) ∧ ∃ (O' : Nat → Prop) (ps' pm' : Value) (P' : List Ent), LawS W' base O' B vl ps' pm' as_ am es em (X ++ p :: Y) P' A E (nx + 1) ∧ P'.length = P.length + 4 ∧ Below base W W' := by
 have hpm : p ∈ X ++ p :: Y := List.mem_append_right _ List.mem_cons_self
 have hp := h.ok p hpm
 have hS := hid (sent_any p.x p.F p.s k n f W hp.pr hok hn)
 obtain ⟨qs, vh, vt, vsn, vrp, rid, hC, _⟩ := hp.rr.ex
 rw [heq] at hC
 have hrow := hC.sent
 have hres := hC.res
 obtain ⟨sa, sc, hsv⟩ := own_val' hrow
 rw [hsv] at hrow hres
 have cx0 : W.cell? ⟨p.pb, 0, none⟩ = some (.pointer (some ⟨p.x, 0, none⟩)) := by rw [cell_blk hp.pair]; rfl
 have cy0 : W.cell? ⟨p.pb, 1, none⟩ = some (.pointer (some ⟨p.y, 0, none⟩)) := by rw [cell_blk hp.pair]; rfl
 have y110 : W.cell? ⟨p.y, 11, none⟩ = some (.slice sa p.s.sent.length sc) := by rw [cell_blk hres]; rfl
 have ly : p.y < W.heap.size := (Array.getElem?_eq_some_iff.1 hres).1
 have lpb : p.pb < W.heap.size := (Array.getElem?_eq_some_iff.1 hp.pair).1
 have hlen : p.s.sent.length ≤ 33554432 := by have := hok.sent; omega
 obtain ⟨c, hc⟩ : ∃ c, cutN f p.s.sent.length = c := ⟨_, rfl⟩
 have hcle : c ≤ p.s.sent.length := by rw [← hc]; exact cutN_le _ _
 rw [hc] at hS
 obtain ⟨D, hD⟩ : ∃ D, p.s.sent.drop c = D := ⟨_, rfl⟩
 rw [hD] at hS
 have hdl : p.s.sent.length = c + D.length := by rw [← hD, List.length_drop]; omega
 have hgD : ∀ j, D[j]? = p.s.sent[c + j]? := fun j => by rw [← hD, List.getElem?_drop]
 have HLOW : Hid (∀ w1 la lc m, Below W.heap.size W w1 → w1.ownsRow W.heap.size 105 2 (.slice la D.length lc) D.length (pcells D) → Calls Tryz.prog 84 #[.pointer (some ⟨B, 1, none⟩), .slice la D.length lc] (w1.drewN m) fun e W' => e = .returned (.tuple #[]) ∧ ∃ (O' : Nat → Prop) (ps' pm' : Value) (P' : List Ent), LawS W' base O' B vl ps' pm' as_ am es em (X ++ p :: Y) P' A E (nx + 1) ∧ P'.length = P.length + 4 ∧ Below base W W') := by
  intro w1 la lc m hb1 h1
  have hbm : Below W.heap.size W (w1.drewN m) := below_drewN hb1 m
  have hLm := h.below hbm
  have h1m : (w1.drewN m).ownsRow W.heap.size 105 2 (.slice la D.length lc) D.length (pcells D) := own_same h1 fun _ _ => rfl
  have hrv := hLm.lp.rv
  have hrm := hLm.lp.rm
  have hbox := hLm.box
  obtain ⟨pa, pc, e1⟩ := own_val' hrv
  obtain ⟨ma, mc, e2⟩ := own_val' hrm
  rw [e1] at hrv hbox
  rw [e2] at hrm hbox
  refine (ownP_any (w1.drewN m) B vl (.slice none 0 0) (.slice none 0 0) as_ am es em pa ma la pc mc lc P.length D.length nx _ _ _ hbox hrv hrm (own_low h1m (Nat.zero_le _)) (by omega) hL hnx).mono ?_
  rintro e W' ⟨rfl, gr, cr, gm, cm, g1, d1, g2, d2, g3, d3, b1, b2, b3, b4, b5, b6, b7, b8, b9, b10⟩
  have hlow : ∀ j, (Value.slice la D.length lc).ownBlock = some j → W.heap.size ≤ j := fun j ej => (h1m.lt j ej).1
  obtain ⟨O', hS', hB'⟩ := hLm.tookP (l := .slice la D.length lc) (N := D.length) (by omega) (fun j ej => ⟨fun ho => by have := h.lt j ho; have := hlow j ej; omega, fun q hq hq' => by have := (h.ok q hq).lt j hq'; have := hlow j ej; omega, by have := hlow j ej; have := h.base.1 B h.own.1; have := h.lt B h.own.1; omega, (h1m.lt j ej).2⟩)
   (l1 := .slice (some ⟨g1, 0, none⟩) (D.length + 1) d1) (l2 := .slice (some ⟨g2, 0, none⟩) (D.length + 2) d2) (l3 := .slice (some ⟨g3, 0, none⟩) (D.length + 3) d3) b1 b2 b3 b4 (by rw [e1, e2]; exact b5)
   (fun j ej => by obtain rfl : gr = j := by simpa [Value.ownBlock] using ej
                   rw [e1]; exact b6)
   (fun j ej => by obtain rfl : gm = j := by simpa [Value.ownBlock] using ej
                   rw [e2]; exact b7)
   (fun j ej => by obtain rfl : g1 = j := by simpa [Value.ownBlock] using ej
                   exact b8)
   (fun j ej => by obtain rfl : g2 = j := by simpa [Value.ownBlock] using ej
                   exact b9)
   (fun j ej => by obtain rfl : g3 = j := by simpa [Value.ownBlock] using ej
                   exact b10)
  exact ⟨rfl, O', _, _, _, hS', by simp, (hbm.mono (by have := h.base.1 B h.own.1; have := h.lt B h.own.1; omega)).trans hB'⟩
 have HC := hid (cut_any p.s.sent.length f)
 have hcutI : ∀ w, Calls Tryz.prog 83 #[.int .i64 ((c + D.length : Nat) : Int), .int .i64 f] w fun e w' => e = .returned (.int .i64 (c : Nat)) ∧ w' = w := fun w => by rw [← hdl, ← hc]; exact HC.out w
 have HCUT := hid hcutI
 have HROW := hid hrow
 have HGD := hid hgD
 have hdl33 : c + D.length ≤ 33554432 := by omega
 have HDL := hid hdl
 rw [hdl] at y110
 clear hcutI h hp hC hres hrow hsv hok hc HC heq hgD hD hdl hcle hlen
 go_enter Tryz.func38, Tryz.ntmps38
 go_wp2_with fail
 refine hS.out.mono ?_
 rintro e w1 ⟨v', rfl, h1, h2⟩
 obtain ⟨la, lc, rfl⟩ := own_val' h1
 have HOWN : Hid (∀ m, Calls Tryz.prog 84 #[.pointer (some ⟨B, 1, none⟩), .slice la D.length lc] (w1.drewN m) fun e W' => e = .returned (.tuple #[]) ∧ ∃ (O' : Nat → Prop) (ps' pm' : Value) (P' : List Ent), LawS W' base O' B vl ps' pm' as_ am es em (X ++ p :: Y) P' A E (nx + 1) ∧ P'.length = P.length + 4 ∧ Below base W W') := fun m => HLOW.out w1 la lc m h2 h1
 have cx : w1.cell? ⟨p.pb, 0, none⟩ = some (.pointer (some ⟨p.x, 0, none⟩)) := (h2.cell (p := ⟨p.pb, 0, none⟩) lpb).trans cx0
 have cy : w1.cell? ⟨p.pb, 1, none⟩ = some (.pointer (some ⟨p.y, 0, none⟩)) := (h2.cell (p := ⟨p.pb, 1, none⟩) lpb).trans cy0
 have y11 : w1.cell? ⟨p.y, 11, none⟩ = some (.slice sa (c + D.length) sc) := (h2.cell (p := ⟨p.y, 11, none⟩) ly).trans y110
 have HL : Hid (∀ (j : Nat) (q : Int × ByteArray), D[j]? = some q → ∃ gl, la = some ⟨gl, 0, none⟩ ∧ D.length ≤ lc ∧ w1.cell? ⟨gl, j * 2, none⟩ = some (.int .i64 q.1) ∧ w1.cell? ⟨gl, j * 2 + 1, none⟩ = some (.string q.2)) := by
  intro j q hq
  rcases h1.2 with ⟨e1, e0⟩ | ⟨gl, cap, cur, e1, _, _, hnc, _⟩
  ·have := (List.getElem?_eq_some_iff.1 hq).1; omega
  ·simp only [Value.slice.injEq] at e1
   obtain ⟨rfl, _, rfl⟩ := e1
   exact ⟨gl, rfl, hnc, own_cell h1 (pcells_get hq).1, own_cell h1 (pcells_get hq).2⟩
 have hrow1 : w1.ownsRow 0 105 2 (.slice sa (c + D.length) sc) (c + D.length) (pcells p.s.sent) := by rw [← HDL.out]; exact own_same HROW.out fun j e => h2.block j (HROW.out.lt j e).2
 have HDL2 : Hid (c + D.length ≤ 33554432) := hdl33
 have hcI : ∀ w, Calls Tryz.prog 83 #[.int .i64 ((c : Int) + (D.length : Int)), .int .i64 f] w fun e w' => e = .returned (.int .i64 (c : Nat)) ∧ w' = w := fun w => by have := HCUT.out w; simpa using this
 have HCI := hid hcI
 clear HLOW hS HROW cx0 cy0 y110 h1 h2 hcI HCUT
 rcases hrow1.2 with ⟨e1, e0⟩ | ⟨gs, cap, cur, e1, _, _, hnc, hcm, _⟩
 ·simp only [Value.slice.injEq] at e1
  obtain ⟨rfl, _, rfl⟩ := e1
  obtain rfl : D = [] := List.eq_nil_of_length_eq_zero (by omega)
  obtain rfl : c = 0 := by omega
  have HM : Hid (∀ (j : Nat) (q : Int × ByteArray), ([] : List (Int × ByteArray))[j]? = some q → False) := by intro j q hq; simp at hq
  clear hrow1 e0
  go_wp2
  go_quiet (first | (go_at_call 83; refine Calls.quiet_of_same (HCI.out _)))
  obtain ⟨w2, hw2⟩ : ∃ w2, w1.drewN nq = w2 := ⟨_, rfl⟩
  have HW2 : Hid (w1.drewN nq = w2) := hw2
  rw [hw2]
  have HL2 : Hid (∀ (j : Nat) (q : Int × ByteArray), ([] : List (Int × ByteArray))[j]? = some q → ∃ gl, la = some ⟨gl, 0, none⟩ ∧ ([] : List (Int × ByteArray)).length ≤ lc ∧ w2.cell? ⟨gl, j * 2, none⟩ = some (.int .i64 q.1) ∧ w2.cell? ⟨gl, j * 2 + 1, none⟩ = some (.string q.2)) := by rw [← hw2]; exact HL.out
  have HM2 : Hid (∀ (j : Nat) (q : Int × ByteArray), ([] : List (Int × ByteArray))[j]? = some q → False) := by first | exact HM.out | (rw [← hw2]; exact HM.out)
  clear hw2 y11 cx cy HL HM
  go_wp2
  go_loopw [9, 10] (fun ok i wr => ∃ j m : Nat, j ≤ ([] : List (Int × ByteArray)).length ∧ i = .int .i64 j ∧ ok = .bool true ∧ wr = w2.drewN m) (fun _ i _ => ([] : List (Int × ByteArray)).length - (intOf i).toNat)
  case atStart => exact ⟨0, 0, Nat.zero_le _, rfl, rfl, rfl⟩
  case round =>
   obtain ⟨j, m, hj, rfl, rfl, rfl⟩ := hrel
   by_cases hlt : j < ([] : List (Int × ByteArray)).length
   ·exact absurd hlt (by simp)
   ·have HO : Hid (Calls Tryz.prog 84 #[.pointer (some ⟨B, 1, none⟩), .slice la ([] : List (Int × ByteArray)).length lc] (w2.drewN m) fun e W' => e = .returned (.tuple #[]) ∧ ∃ (O' : Nat → Prop) (ps' pm' : Value) (P' : List Ent), LawS W' base O' B vl ps' pm' as_ am es em (X ++ p :: Y) P' A E (nx + 1) ∧ P'.length = P.length + 4 ∧ Below base W W') := by rw [← HW2.out, World.drewN_drewN]; exact HOWN.out _
    have hlt' : ¬ (j : Int) < (([] : List (Int × ByteArray)).length : Int) := by omega
    clear HW2 HL2 HM2 HOWN
    go_wp2_with (go_at_call 84; refine HO.out.mono ?_; rintro e w3 ⟨rfl, hE⟩)
    go_ret
    exact ⟨rfl, hE⟩
 ·simp only [Value.slice.injEq] at e1
  obtain ⟨rfl, _, rfl⟩ := e1
  by_cases hD0 : 0 < D.length
  ·have hcne : ¬ sc = c := by omega
   have HM : Hid (∀ (j : Nat) (q : Int × ByteArray), D[j]? = some q → w1.cell? ⟨gs, c * 2 + j * 2, none⟩ = some (.int .i64 q.1) ∧ w1.cell? ⟨gs, c * 2 + j * 2 + 1, none⟩ = some (.string q.2)) := by
    intro j q hq
    rw [HGD.out] at hq
    have := pcells_get hq
    rw [show (c + j) * 2 = c * 2 + j * 2 by omega] at this
    exact ⟨own_cell hrow1 this.1, own_cell hrow1 this.2⟩
   clear hrow1
   go_wp2
   go_quiet (first | (go_at_call 83; refine Calls.quiet_of_same (HCI.out _)))
   obtain ⟨w2, hw2⟩ : ∃ w2, w1.drewN nq = w2 := ⟨_, rfl⟩
   have HW2 : Hid (w1.drewN nq = w2) := hw2
   rw [hw2]
   have HL2 : Hid (∀ (j : Nat) (q : Int × ByteArray), D[j]? = some q → ∃ gl, la = some ⟨gl, 0, none⟩ ∧ D.length ≤ lc ∧ w2.cell? ⟨gl, j * 2, none⟩ = some (.int .i64 q.1) ∧ w2.cell? ⟨gl, j * 2 + 1, none⟩ = some (.string q.2)) := by rw [← hw2]; exact HL.out
   have HM2 : Hid (∀ (j : Nat) (q : Int × ByteArray), D[j]? = some q → w2.cell? ⟨gs, c * 2 + j * 2, none⟩ = some (.int .i64 q.1) ∧ w2.cell? ⟨gs, c * 2 + j * 2 + 1, none⟩ = some (.string q.2)) := by first | exact HM.out | (rw [← hw2]; exact HM.out)
   clear hw2 y11 cx cy HL HM
   go_wp2
   go_loopw [9, 10] (fun ok i wr => ∃ j m : Nat, j ≤ D.length ∧ i = .int .i64 j ∧ ok = .bool true ∧ wr = w2.drewN m) (fun _ i _ => D.length - (intOf i).toNat)
   case atStart => exact ⟨0, 0, Nat.zero_le _, rfl, by simp, rfl⟩
   case round =>
    obtain ⟨j, m, hj, rfl, rfl, rfl⟩ := hrel
    by_cases hlt : j < D.length
    ·obtain ⟨q, hq⟩ : ∃ q, D[j]? = some q := ⟨D[j], List.getElem?_eq_getElem hlt⟩
     obtain ⟨gl, rfl, hlc, l0, l1⟩ := HL2.out j q hq
     obtain ⟨m0, m1⟩ := HM2.out j q hq
     have hlt' : (j : Int) < (D.length : Int) := by omega
     clear hq HW2 HOWN
     go_wp2
     go_quiet (fail)
     go_wp2
     go_roundw
     case rel => exact ⟨j + 1, m + nq, hlt, by go_num, by simp, rfl⟩
     case measure => simp [intOf]; omega
    ·have HO : Hid (Calls Tryz.prog 84 #[.pointer (some ⟨B, 1, none⟩), .slice la D.length lc] (w2.drewN m) fun e W' => e = .returned (.tuple #[]) ∧ ∃ (O' : Nat → Prop) (ps' pm' : Value) (P' : List Ent), LawS W' base O' B vl ps' pm' as_ am es em (X ++ p :: Y) P' A E (nx + 1) ∧ P'.length = P.length + 4 ∧ Below base W W') := by rw [← HW2.out, World.drewN_drewN]; exact HOWN.out _
     have hlt' : ¬ (j : Int) < (D.length : Int) := by omega
     clear HW2 HL2 HM2 HOWN
     go_wp2_with (go_at_call 84; refine HO.out.mono ?_; rintro e w3 ⟨rfl, hE⟩)
     go_ret
     exact ⟨rfl, hE⟩
  ·obtain rfl : D = [] := List.eq_nil_of_length_eq_zero (by omega)
   have HM : Hid (∀ (j : Nat) (q : Int × ByteArray), ([] : List (Int × ByteArray))[j]? = some q → False) := by intro j q hq; simp at hq
   clear hrow1 hD0
   by_cases hcc : sc = c
   ·subst hcc
    go_wp2
    go_quiet (first | (go_at_call 83; refine Calls.quiet_of_same (HCI.out _)))
    obtain ⟨w2, hw2⟩ : ∃ w2, w1.drewN nq = w2 := ⟨_, rfl⟩
    have HW2 : Hid (w1.drewN nq = w2) := hw2
    rw [hw2]
    have HL2 : Hid (∀ (j : Nat) (q : Int × ByteArray), ([] : List (Int × ByteArray))[j]? = some q → ∃ gl, la = some ⟨gl, 0, none⟩ ∧ ([] : List (Int × ByteArray)).length ≤ lc ∧ w2.cell? ⟨gl, j * 2, none⟩ = some (.int .i64 q.1) ∧ w2.cell? ⟨gl, j * 2 + 1, none⟩ = some (.string q.2)) := by rw [← hw2]; exact HL.out
    have HM2 : Hid (∀ (j : Nat) (q : Int × ByteArray), ([] : List (Int × ByteArray))[j]? = some q → False) := by first | exact HM.out | (rw [← hw2]; exact HM.out)
    clear hw2 y11 cx cy HL HM
    go_wp2
    go_loopw [9, 10] (fun ok i wr => ∃ j m : Nat, j ≤ ([] : List (Int × ByteArray)).length ∧ i = .int .i64 j ∧ ok = .bool true ∧ wr = w2.drewN m) (fun _ i _ => ([] : List (Int × ByteArray)).length - (intOf i).toNat)
    case atStart => exact ⟨0, 0, Nat.zero_le _, rfl, rfl, rfl⟩
    case round =>
     obtain ⟨j, m, hj, rfl, rfl, rfl⟩ := hrel
     by_cases hlt : j < ([] : List (Int × ByteArray)).length
     ·exact absurd hlt (by simp)
     ·have HO : Hid (Calls Tryz.prog 84 #[.pointer (some ⟨B, 1, none⟩), .slice la ([] : List (Int × ByteArray)).length lc] (w2.drewN m) fun e W' => e = .returned (.tuple #[]) ∧ ∃ (O' : Nat → Prop) (ps' pm' : Value) (P' : List Ent), LawS W' base O' B vl ps' pm' as_ am es em (X ++ p :: Y) P' A E (nx + 1) ∧ P'.length = P.length + 4 ∧ Below base W W') := by rw [← HW2.out, World.drewN_drewN]; exact HOWN.out _
      have hlt' : ¬ (j : Int) < (([] : List (Int × ByteArray)).length : Int) := by omega
      clear HW2 HL2 HM2 HOWN
      go_wp2_with (go_at_call 84; refine HO.out.mono ?_; rintro e w3 ⟨rfl, hE⟩)
      go_ret
      exact ⟨rfl, hE⟩
   ·skip
    go_wp2
    go_quiet (first | (go_at_call 83; refine Calls.quiet_of_same (HCI.out _)))
    obtain ⟨w2, hw2⟩ : ∃ w2, w1.drewN nq = w2 := ⟨_, rfl⟩
    have HW2 : Hid (w1.drewN nq = w2) := hw2
    rw [hw2]
    have HL2 : Hid (∀ (j : Nat) (q : Int × ByteArray), ([] : List (Int × ByteArray))[j]? = some q → ∃ gl, la = some ⟨gl, 0, none⟩ ∧ ([] : List (Int × ByteArray)).length ≤ lc ∧ w2.cell? ⟨gl, j * 2, none⟩ = some (.int .i64 q.1) ∧ w2.cell? ⟨gl, j * 2 + 1, none⟩ = some (.string q.2)) := by rw [← hw2]; exact HL.out
    have HM2 : Hid (∀ (j : Nat) (q : Int × ByteArray), ([] : List (Int × ByteArray))[j]? = some q → False) := by first | exact HM.out | (rw [← hw2]; exact HM.out)
    clear hw2 y11 cx cy HL HM
    go_wp2
    go_loopw [9, 10] (fun ok i wr => ∃ j m : Nat, j ≤ ([] : List (Int × ByteArray)).length ∧ i = .int .i64 j ∧ ok = .bool true ∧ wr = w2.drewN m) (fun _ i _ => ([] : List (Int × ByteArray)).length - (intOf i).toNat)
    case atStart => exact ⟨0, 0, Nat.zero_le _, rfl, rfl, rfl⟩
    case round =>
     obtain ⟨j, m, hj, rfl, rfl, rfl⟩ := hrel
     by_cases hlt : j < ([] : List (Int × ByteArray)).length
     ·exact absurd hlt (by simp)
     ·have HO : Hid (Calls Tryz.prog 84 #[.pointer (some ⟨B, 1, none⟩), .slice la ([] : List (Int × ByteArray)).length lc] (w2.drewN m) fun e W' => e = .returned (.tuple #[]) ∧ ∃ (O' : Nat → Prop) (ps' pm' : Value) (P' : List Ent), LawS W' base O' B vl ps' pm' as_ am es em (X ++ p :: Y) P' A E (nx + 1) ∧ P'.length = P.length + 4 ∧ Below base W W') := by rw [← HW2.out, World.drewN_drewN]; exact HOWN.out _
      have hlt' : ¬ (j : Int) < (([] : List (Int × ByteArray)).length : Int) := by omega
      clear HW2 HL2 HM2 HOWN
      go_wp2_with (go_at_call 84; refine HO.out.mono ?_; rintro e w3 ⟨rfl, hE⟩)
      go_ret
      exact ⟨rfl, hE⟩
set_option maxHeartbeats 4000000 in
theorem lreps_any (W : World) (base : Nat) (O : Nat → Prop) (B : Nat) (vl ps pm as_ am es em : Value) (X Y : List Pr) (p : Pr) (P A E : List Ent) (nx : Nat) (k n : Nat) (f : Int) (h : LawS W base O B vl ps pm as_ am es em (X ++ p :: Y) P A E nx) (hok : RsOk p.s k n) (heq : p.t = p.s) (hn : n ≤ 33554432) (hL : A.length ≤ 16777216) (hnx : nx ≤ 16777216) :
  Calls Tryz.prog 39 #[.pointer (some ⟨B, 0, none⟩), .pointer (some ⟨p.pb, 0, none⟩), .int .i64 f] W fun e W' => e = .returned (.bool true) ∧ ∃ (O' : Nat → Prop) (as_' am' : Value) (A' : List Ent), LawS W' base O' B vl ps pm as_' am' es em (X ++ p :: Y) P A' E (nx + 1) ∧ A'.length = A.length + 4 ∧ Below base W W' := by
 have hpm : p ∈ X ++ p :: Y := List.mem_append_right _ List.mem_cons_self
 have hp := h.ok p hpm
 have hS := hid (replies_any p.x p.F p.s k n f W hp.pr hok hn)
 obtain ⟨qs, vh, vt, vsn, vrp, rid, hC, _⟩ := hp.rr.ex
 rw [heq] at hC
 have hrow := hC.reps
 have hres := hC.res
 obtain ⟨sa, sc, hsv⟩ := own_val' hrow
 rw [hsv] at hrow hres
 have cx0 : W.cell? ⟨p.pb, 0, none⟩ = some (.pointer (some ⟨p.x, 0, none⟩)) := by rw [cell_blk hp.pair]; rfl
 have cy0 : W.cell? ⟨p.pb, 1, none⟩ = some (.pointer (some ⟨p.y, 0, none⟩)) := by rw [cell_blk hp.pair]; rfl
 have y110 : W.cell? ⟨p.y, 12, none⟩ = some (.slice sa p.s.replies.length sc) := by rw [cell_blk hres]; rfl
 have ly : p.y < W.heap.size := (Array.getElem?_eq_some_iff.1 hres).1
 have lpb : p.pb < W.heap.size := (Array.getElem?_eq_some_iff.1 hp.pair).1
 have hlen : p.s.replies.length ≤ 33554432 := by have := hok.replies; omega
 obtain ⟨c, hc⟩ : ∃ c, cutN f p.s.replies.length = c := ⟨_, rfl⟩
 have hcle : c ≤ p.s.replies.length := by rw [← hc]; exact cutN_le _ _
 rw [hc] at hS
 obtain ⟨D, hD⟩ : ∃ D, p.s.replies.drop c = D := ⟨_, rfl⟩
 rw [hD] at hS
 have hdl : p.s.replies.length = c + D.length := by rw [← hD, List.length_drop]; omega
 have hgD : ∀ j, D[j]? = p.s.replies[c + j]? := fun j => by rw [← hD, List.getElem?_drop]
 have HLOW : Hid (∀ w1 la lc m, Below W.heap.size W w1 → w1.ownsRow W.heap.size 66 2 (.slice la D.length lc) D.length (pcells D) → Calls Tryz.prog 85 #[.pointer (some ⟨B, 1, none⟩), .slice la D.length lc] (w1.drewN m) fun e W' => e = .returned (.tuple #[]) ∧ ∃ (O' : Nat → Prop) (as_' am' : Value) (A' : List Ent), LawS W' base O' B vl ps pm as_' am' es em (X ++ p :: Y) P A' E (nx + 1) ∧ A'.length = A.length + 4 ∧ Below base W W') := by
  intro w1 la lc m hb1 h1
  have hbm : Below W.heap.size W (w1.drewN m) := below_drewN hb1 m
  have hLm := h.below hbm
  have h1m : (w1.drewN m).ownsRow W.heap.size 66 2 (.slice la D.length lc) D.length (pcells D) := own_same h1 fun _ _ => rfl
  have hrv := hLm.la.rv
  have hrm := hLm.la.rm
  have hbox := hLm.box
  obtain ⟨pa, pc, e1⟩ := own_val' hrv
  obtain ⟨ma, mc, e2⟩ := own_val' hrm
  rw [e1] at hrv hbox
  rw [e2] at hrm hbox
  refine (ownA_any (w1.drewN m) B vl (.slice none 0 0) (.slice none 0 0) ps pm es em pa ma la pc mc lc A.length D.length nx _ _ _ hbox hrv hrm (own_low h1m (Nat.zero_le _)) (by omega) hL hnx).mono ?_
  rintro e W' ⟨rfl, gr, cr, gm, cm, g1, d1, g2, d2, g3, d3, b1, b2, b3, b4, b5, b6, b7, b8, b9, b10⟩
  have hlow : ∀ j, (Value.slice la D.length lc).ownBlock = some j → W.heap.size ≤ j := fun j ej => (h1m.lt j ej).1
  obtain ⟨O', hS', hB'⟩ := hLm.tookA (l := .slice la D.length lc) (N := D.length) (by omega) (fun j ej => ⟨fun ho => by have := h.lt j ho; have := hlow j ej; omega, fun q hq hq' => by have := (h.ok q hq).lt j hq'; have := hlow j ej; omega, by have := hlow j ej; have := h.base.1 B h.own.1; have := h.lt B h.own.1; omega, (h1m.lt j ej).2⟩)
   (l1 := .slice (some ⟨g1, 0, none⟩) (D.length + 1) d1) (l2 := .slice (some ⟨g2, 0, none⟩) (D.length + 2) d2) (l3 := .slice (some ⟨g3, 0, none⟩) (D.length + 3) d3) b1 b2 b3 b4 (by rw [e1, e2]; exact b5)
   (fun j ej => by obtain rfl : gr = j := by simpa [Value.ownBlock] using ej
                   rw [e1]; exact b6)
   (fun j ej => by obtain rfl : gm = j := by simpa [Value.ownBlock] using ej
                   rw [e2]; exact b7)
   (fun j ej => by obtain rfl : g1 = j := by simpa [Value.ownBlock] using ej
                   exact b8)
   (fun j ej => by obtain rfl : g2 = j := by simpa [Value.ownBlock] using ej
                   exact b9)
   (fun j ej => by obtain rfl : g3 = j := by simpa [Value.ownBlock] using ej
                   exact b10)
  exact ⟨rfl, O', _, _, _, hS', by simp, (hbm.mono (by have := h.base.1 B h.own.1; have := h.lt B h.own.1; omega)).trans hB'⟩
 have HC := hid (cut_any p.s.replies.length f)
 have hcutI : ∀ w, Calls Tryz.prog 83 #[.int .i64 ((c + D.length : Nat) : Int), .int .i64 f] w fun e w' => e = .returned (.int .i64 (c : Nat)) ∧ w' = w := fun w => by rw [← hdl, ← hc]; exact HC.out w
 have HCUT := hid hcutI
 have HROW := hid hrow
 have HGD := hid hgD
 have hdl33 : c + D.length ≤ 33554432 := by omega
 have HDL := hid hdl
 rw [hdl] at y110
 clear hcutI h hp hC hres hrow hsv hok hc HC heq hgD hD hdl hcle hlen
 go_enter Tryz.func39, Tryz.ntmps39
 go_wp2_with fail
 refine hS.out.mono ?_
 rintro e w1 ⟨v', rfl, h1, h2⟩
 obtain ⟨la, lc, rfl⟩ := own_val' h1
 have HOWN : Hid (∀ m, Calls Tryz.prog 85 #[.pointer (some ⟨B, 1, none⟩), .slice la D.length lc] (w1.drewN m) fun e W' => e = .returned (.tuple #[]) ∧ ∃ (O' : Nat → Prop) (as_' am' : Value) (A' : List Ent), LawS W' base O' B vl ps pm as_' am' es em (X ++ p :: Y) P A' E (nx + 1) ∧ A'.length = A.length + 4 ∧ Below base W W') := fun m => HLOW.out w1 la lc m h2 h1
 have cx : w1.cell? ⟨p.pb, 0, none⟩ = some (.pointer (some ⟨p.x, 0, none⟩)) := (h2.cell (p := ⟨p.pb, 0, none⟩) lpb).trans cx0
 have cy : w1.cell? ⟨p.pb, 1, none⟩ = some (.pointer (some ⟨p.y, 0, none⟩)) := (h2.cell (p := ⟨p.pb, 1, none⟩) lpb).trans cy0
 have y11 : w1.cell? ⟨p.y, 12, none⟩ = some (.slice sa (c + D.length) sc) := (h2.cell (p := ⟨p.y, 12, none⟩) ly).trans y110
 have HL : Hid (∀ (j : Nat) (q : Int × ByteArray), D[j]? = some q → ∃ gl, la = some ⟨gl, 0, none⟩ ∧ D.length ≤ lc ∧ w1.cell? ⟨gl, j * 2, none⟩ = some (.int .i64 q.1) ∧ w1.cell? ⟨gl, j * 2 + 1, none⟩ = some (.string q.2)) := by
  intro j q hq
  rcases h1.2 with ⟨e1, e0⟩ | ⟨gl, cap, cur, e1, _, _, hnc, _⟩
  ·have := (List.getElem?_eq_some_iff.1 hq).1; omega
  ·simp only [Value.slice.injEq] at e1
   obtain ⟨rfl, _, rfl⟩ := e1
   exact ⟨gl, rfl, hnc, own_cell h1 (pcells_get hq).1, own_cell h1 (pcells_get hq).2⟩
 have hrow1 : w1.ownsRow 0 66 2 (.slice sa (c + D.length) sc) (c + D.length) (pcells p.s.replies) := by rw [← HDL.out]; exact own_same HROW.out fun j e => h2.block j (HROW.out.lt j e).2
 have HDL2 : Hid (c + D.length ≤ 33554432) := hdl33
 have hcI : ∀ w, Calls Tryz.prog 83 #[.int .i64 ((c : Int) + (D.length : Int)), .int .i64 f] w fun e w' => e = .returned (.int .i64 (c : Nat)) ∧ w' = w := fun w => by have := HCUT.out w; simpa using this
 have HCI := hid hcI
 clear HLOW hS HROW cx0 cy0 y110 h1 h2 hcI HCUT
 rcases hrow1.2 with ⟨e1, e0⟩ | ⟨gs, cap, cur, e1, _, _, hnc, hcm, _⟩
 ·simp only [Value.slice.injEq] at e1
  obtain ⟨rfl, _, rfl⟩ := e1
  obtain rfl : D = [] := List.eq_nil_of_length_eq_zero (by omega)
  obtain rfl : c = 0 := by omega
  have HM : Hid (∀ (j : Nat) (q : Int × ByteArray), ([] : List (Int × ByteArray))[j]? = some q → False) := by intro j q hq; simp at hq
  clear hrow1 e0
  go_wp2
  go_quiet (first | (go_at_call 83; refine Calls.quiet_of_same (HCI.out _)))
  obtain ⟨w2, hw2⟩ : ∃ w2, w1.drewN nq = w2 := ⟨_, rfl⟩
  have HW2 : Hid (w1.drewN nq = w2) := hw2
  rw [hw2]
  have HL2 : Hid (∀ (j : Nat) (q : Int × ByteArray), ([] : List (Int × ByteArray))[j]? = some q → ∃ gl, la = some ⟨gl, 0, none⟩ ∧ ([] : List (Int × ByteArray)).length ≤ lc ∧ w2.cell? ⟨gl, j * 2, none⟩ = some (.int .i64 q.1) ∧ w2.cell? ⟨gl, j * 2 + 1, none⟩ = some (.string q.2)) := by rw [← hw2]; exact HL.out
  have HM2 : Hid (∀ (j : Nat) (q : Int × ByteArray), ([] : List (Int × ByteArray))[j]? = some q → False) := by first | exact HM.out | (rw [← hw2]; exact HM.out)
  clear hw2 y11 cx cy HL HM
  go_wp2
  go_loopw [9, 10] (fun ok i wr => ∃ j m : Nat, j ≤ ([] : List (Int × ByteArray)).length ∧ i = .int .i64 j ∧ ok = .bool true ∧ wr = w2.drewN m) (fun _ i _ => ([] : List (Int × ByteArray)).length - (intOf i).toNat)
  case atStart => exact ⟨0, 0, Nat.zero_le _, rfl, rfl, rfl⟩
  case round =>
   obtain ⟨j, m, hj, rfl, rfl, rfl⟩ := hrel
   by_cases hlt : j < ([] : List (Int × ByteArray)).length
   ·exact absurd hlt (by simp)
   ·have HO : Hid (Calls Tryz.prog 85 #[.pointer (some ⟨B, 1, none⟩), .slice la ([] : List (Int × ByteArray)).length lc] (w2.drewN m) fun e W' => e = .returned (.tuple #[]) ∧ ∃ (O' : Nat → Prop) (as_' am' : Value) (A' : List Ent), LawS W' base O' B vl ps pm as_' am' es em (X ++ p :: Y) P A' E (nx + 1) ∧ A'.length = A.length + 4 ∧ Below base W W') := by rw [← HW2.out, World.drewN_drewN]; exact HOWN.out _
    have hlt' : ¬ (j : Int) < (([] : List (Int × ByteArray)).length : Int) := by omega
    clear HW2 HL2 HM2 HOWN
    go_wp2_with (go_at_call 85; refine HO.out.mono ?_; rintro e w3 ⟨rfl, hE⟩)
    go_ret
    exact ⟨rfl, hE⟩
 ·simp only [Value.slice.injEq] at e1
  obtain ⟨rfl, _, rfl⟩ := e1
  by_cases hD0 : 0 < D.length
  ·have hcne : ¬ sc = c := by omega
   have HM : Hid (∀ (j : Nat) (q : Int × ByteArray), D[j]? = some q → w1.cell? ⟨gs, c * 2 + j * 2, none⟩ = some (.int .i64 q.1) ∧ w1.cell? ⟨gs, c * 2 + j * 2 + 1, none⟩ = some (.string q.2)) := by
    intro j q hq
    rw [HGD.out] at hq
    have := pcells_get hq
    rw [show (c + j) * 2 = c * 2 + j * 2 by omega] at this
    exact ⟨own_cell hrow1 this.1, own_cell hrow1 this.2⟩
   clear hrow1
   go_wp2
   go_quiet (first | (go_at_call 83; refine Calls.quiet_of_same (HCI.out _)))
   obtain ⟨w2, hw2⟩ : ∃ w2, w1.drewN nq = w2 := ⟨_, rfl⟩
   have HW2 : Hid (w1.drewN nq = w2) := hw2
   rw [hw2]
   have HL2 : Hid (∀ (j : Nat) (q : Int × ByteArray), D[j]? = some q → ∃ gl, la = some ⟨gl, 0, none⟩ ∧ D.length ≤ lc ∧ w2.cell? ⟨gl, j * 2, none⟩ = some (.int .i64 q.1) ∧ w2.cell? ⟨gl, j * 2 + 1, none⟩ = some (.string q.2)) := by rw [← hw2]; exact HL.out
   have HM2 : Hid (∀ (j : Nat) (q : Int × ByteArray), D[j]? = some q → w2.cell? ⟨gs, c * 2 + j * 2, none⟩ = some (.int .i64 q.1) ∧ w2.cell? ⟨gs, c * 2 + j * 2 + 1, none⟩ = some (.string q.2)) := by first | exact HM.out | (rw [← hw2]; exact HM.out)
   clear hw2 y11 cx cy HL HM
   go_wp2
   go_loopw [9, 10] (fun ok i wr => ∃ j m : Nat, j ≤ D.length ∧ i = .int .i64 j ∧ ok = .bool true ∧ wr = w2.drewN m) (fun _ i _ => D.length - (intOf i).toNat)
   case atStart => exact ⟨0, 0, Nat.zero_le _, rfl, by simp, rfl⟩
   case round =>
    obtain ⟨j, m, hj, rfl, rfl, rfl⟩ := hrel
    by_cases hlt : j < D.length
    ·obtain ⟨q, hq⟩ : ∃ q, D[j]? = some q := ⟨D[j], List.getElem?_eq_getElem hlt⟩
     obtain ⟨gl, rfl, hlc, l0, l1⟩ := HL2.out j q hq
     obtain ⟨m0, m1⟩ := HM2.out j q hq
     have hlt' : (j : Int) < (D.length : Int) := by omega
     clear hq HW2 HOWN
     go_wp2
     go_quiet (fail)
     go_wp2
     go_roundw
     case rel => exact ⟨j + 1, m + nq, hlt, by go_num, by simp, rfl⟩
     case measure => simp [intOf]; omega
    ·have HO : Hid (Calls Tryz.prog 85 #[.pointer (some ⟨B, 1, none⟩), .slice la D.length lc] (w2.drewN m) fun e W' => e = .returned (.tuple #[]) ∧ ∃ (O' : Nat → Prop) (as_' am' : Value) (A' : List Ent), LawS W' base O' B vl ps pm as_' am' es em (X ++ p :: Y) P A' E (nx + 1) ∧ A'.length = A.length + 4 ∧ Below base W W') := by rw [← HW2.out, World.drewN_drewN]; exact HOWN.out _
     have hlt' : ¬ (j : Int) < (D.length : Int) := by omega
     clear HW2 HL2 HM2 HOWN
     go_wp2_with (go_at_call 85; refine HO.out.mono ?_; rintro e w3 ⟨rfl, hE⟩)
     go_ret
     exact ⟨rfl, hE⟩
  ·obtain rfl : D = [] := List.eq_nil_of_length_eq_zero (by omega)
   have HM : Hid (∀ (j : Nat) (q : Int × ByteArray), ([] : List (Int × ByteArray))[j]? = some q → False) := by intro j q hq; simp at hq
   clear hrow1 hD0
   by_cases hcc : sc = c
   ·subst hcc
    go_wp2
    go_quiet (first | (go_at_call 83; refine Calls.quiet_of_same (HCI.out _)))
    obtain ⟨w2, hw2⟩ : ∃ w2, w1.drewN nq = w2 := ⟨_, rfl⟩
    have HW2 : Hid (w1.drewN nq = w2) := hw2
    rw [hw2]
    have HL2 : Hid (∀ (j : Nat) (q : Int × ByteArray), ([] : List (Int × ByteArray))[j]? = some q → ∃ gl, la = some ⟨gl, 0, none⟩ ∧ ([] : List (Int × ByteArray)).length ≤ lc ∧ w2.cell? ⟨gl, j * 2, none⟩ = some (.int .i64 q.1) ∧ w2.cell? ⟨gl, j * 2 + 1, none⟩ = some (.string q.2)) := by rw [← hw2]; exact HL.out
    have HM2 : Hid (∀ (j : Nat) (q : Int × ByteArray), ([] : List (Int × ByteArray))[j]? = some q → False) := by first | exact HM.out | (rw [← hw2]; exact HM.out)
    clear hw2 y11 cx cy HL HM
    go_wp2
    go_loopw [9, 10] (fun ok i wr => ∃ j m : Nat, j ≤ ([] : List (Int × ByteArray)).length ∧ i = .int .i64 j ∧ ok = .bool true ∧ wr = w2.drewN m) (fun _ i _ => ([] : List (Int × ByteArray)).length - (intOf i).toNat)
    case atStart => exact ⟨0, 0, Nat.zero_le _, rfl, rfl, rfl⟩
    case round =>
     obtain ⟨j, m, hj, rfl, rfl, rfl⟩ := hrel
     by_cases hlt : j < ([] : List (Int × ByteArray)).length
     ·exact absurd hlt (by simp)
     ·have HO : Hid (Calls Tryz.prog 85 #[.pointer (some ⟨B, 1, none⟩), .slice la ([] : List (Int × ByteArray)).length lc] (w2.drewN m) fun e W' => e = .returned (.tuple #[]) ∧ ∃ (O' : Nat → Prop) (as_' am' : Value) (A' : List Ent), LawS W' base O' B vl ps pm as_' am' es em (X ++ p :: Y) P A' E (nx + 1) ∧ A'.length = A.length + 4 ∧ Below base W W') := by rw [← HW2.out, World.drewN_drewN]; exact HOWN.out _
      have hlt' : ¬ (j : Int) < (([] : List (Int × ByteArray)).length : Int) := by omega
      clear HW2 HL2 HM2 HOWN
      go_wp2_with (go_at_call 85; refine HO.out.mono ?_; rintro e w3 ⟨rfl, hE⟩)
      go_ret
      exact ⟨rfl, hE⟩
   ·skip
    go_wp2
    go_quiet (first | (go_at_call 83; refine Calls.quiet_of_same (HCI.out _)))
    obtain ⟨w2, hw2⟩ : ∃ w2, w1.drewN nq = w2 := ⟨_, rfl⟩
    have HW2 : Hid (w1.drewN nq = w2) := hw2
    rw [hw2]
    have HL2 : Hid (∀ (j : Nat) (q : Int × ByteArray), ([] : List (Int × ByteArray))[j]? = some q → ∃ gl, la = some ⟨gl, 0, none⟩ ∧ ([] : List (Int × ByteArray)).length ≤ lc ∧ w2.cell? ⟨gl, j * 2, none⟩ = some (.int .i64 q.1) ∧ w2.cell? ⟨gl, j * 2 + 1, none⟩ = some (.string q.2)) := by rw [← hw2]; exact HL.out
    have HM2 : Hid (∀ (j : Nat) (q : Int × ByteArray), ([] : List (Int × ByteArray))[j]? = some q → False) := by first | exact HM.out | (rw [← hw2]; exact HM.out)
    clear hw2 y11 cx cy HL HM
    go_wp2
    go_loopw [9, 10] (fun ok i wr => ∃ j m : Nat, j ≤ ([] : List (Int × ByteArray)).length ∧ i = .int .i64 j ∧ ok = .bool true ∧ wr = w2.drewN m) (fun _ i _ => ([] : List (Int × ByteArray)).length - (intOf i).toNat)
    case atStart => exact ⟨0, 0, Nat.zero_le _, rfl, rfl, rfl⟩
    case round =>
     obtain ⟨j, m, hj, rfl, rfl, rfl⟩ := hrel
     by_cases hlt : j < ([] : List (Int × ByteArray)).length
     ·exact absurd hlt (by simp)
     ·have HO : Hid (Calls Tryz.prog 85 #[.pointer (some ⟨B, 1, none⟩), .slice la ([] : List (Int × ByteArray)).length lc] (w2.drewN m) fun e W' => e = .returned (.tuple #[]) ∧ ∃ (O' : Nat → Prop) (as_' am' : Value) (A' : List Ent), LawS W' base O' B vl ps pm as_' am' es em (X ++ p :: Y) P A' E (nx + 1) ∧ A'.length = A.length + 4 ∧ Below base W W') := by rw [← HW2.out, World.drewN_drewN]; exact HOWN.out _
      have hlt' : ¬ (j : Int) < (([] : List (Int × ByteArray)).length : Int) := by omega
      clear HW2 HL2 HM2 HOWN
      go_wp2_with (go_at_call 85; refine HO.out.mono ?_; rintro e w3 ⟨rfl, hE⟩)
      go_ret
      exact ⟨rfl, hE⟩
end Go.Proofs.YtefdokkadckbbaaGreatDoor
