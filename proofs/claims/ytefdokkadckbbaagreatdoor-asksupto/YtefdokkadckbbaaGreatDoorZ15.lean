/- H9 -/
import Derived.Test.YtefdokkadckbbaaGreatDoorZ11
namespace Go.Proofs.YtefdokkadckbbaaGreatDoor
open Go.RowKit
set_option maxRecDepth 100000
def msgS (t : List UInt8) : Option Msg :=
 if t.length ≤ 1000 then
 (twoS t 0).bind fun id => (kindS t id.2).bind fun rep => (numS t 0 3 rep.2).bind fun code => (nameS t code.2).bind fun nm => (numS t 0 4 nm.2).bind fun ty =>
 (numS t 0 10 ty.2).bind fun ka => (numS t 0 10 ka.2).bind fun kb => (numS t 0 10 kb.2).bind fun kc =>
 (recsS t ka.1.toNat kc.2).bind fun la => (recsS t kb.1.toNat la.2).bind fun lb => (recsS t kc.1.toNat lb.2).bind fun lc =>
 if lc.2 = t.length then some ⟨id.1, rep.1, code.1, mk nm.1, ty.1, la.1, lb.1, lc.1⟩ else none
 else none
theorem recsS_bd {t : List UInt8} : ∀ (k n : Nat) {l : List Rec} {m : Nat}, recsS t k n = some (l, m) → n ≤ t.length → n ≤ m ∧ m ≤ t.length ∧ l.length = k
 | 0, n, l, m, h, hn => by
  simp only [recsS, Option.some.injEq, Prod.mk.injEq] at h
  obtain ⟨rfl, rfl⟩ := h
  simp; omega
 | k + 1, n, l, m, h, hn => by
  simp only [recsS] at h
  cases h0 : recS t n with
  | none => rw [h0] at h; cases h
  | some x =>
   obtain ⟨r, m1⟩ := x
   have b0 := recS_bd h0
   rw [h0, Option.bind_some] at h
   simp only at h
   cases h1 : recsS t k m1 with
   | none => rw [h1] at h; cases h
   | some y =>
    obtain ⟨l', m'⟩ := y
    have b1 := recsS_bd k m1 h1 b0.2
    rw [h1] at h
    simp only [Option.map_some, Option.some.injEq, Prod.mk.injEq] at h
    obtain ⟨rfl, rfl⟩ := h
    simp; omega
theorem kindS_bd {t : List UInt8} {n : Nat} {a : Bool} {m : Nat} (h : kindS t n = some (a, m)) : m = n + 1 ∧ n < t.length := by
 unfold kindS at h
 cases h0 : byteS t n with
 | none => rw [h0] at h; cases h
 | some x =>
  obtain ⟨b, k⟩ := x
  have hb := byteS_bd h0
  rw [h0, Option.bind_some] at h
  simp only at h
  split at h
  ·simp only [Option.some.injEq, Prod.mk.injEq] at h; omega
  ·split at h
   ·simp only [Option.some.injEq, Prod.mk.injEq] at h; omega
   ·cases h
def Box8 (b : Nat) (v0 v1 v2 v3 v4 v5 v6 v7 : Value) (W : World) : Prop :=
 W.heap[b]? = some (.cells #[.int .i64 0, .bool false, .int .i64 0, .string ⟨#[]⟩, .int .i64 0, .slice none 0 0, .slice none 0 0, .slice none 0 0] 27 (0, 0)) ∧ W.heap[b + 1]? = some (.cells #[v0, v1, v2, v3, v4, v5, v6, v7] 27 (0, 0))
theorem Box8.only {b R : Nat} {v0 v1 v2 v3 v4 v5 v6 v7 : Value} {W W' : World} (h : Box8 b v0 v1 v2 v3 v4 v5 v6 v7 W) (ho : Only R W W') (hR : R < b) : Box8 b v0 v1 v2 v3 v4 v5 v6 v7 W' := by
 refine ⟨?_, ?_⟩
 ·rw [ho.block b (Array.getElem?_eq_some_iff.1 h.1).1 (by omega)]; exact h.1
 ·rw [ho.block (b + 1) (Array.getElem?_eq_some_iff.1 h.2).1 (by omega)]; exact h.2
theorem Box8.cells {b : Nat} {v0 v1 v2 v3 v4 v5 v6 v7 : Value} {W : World} (h : Box8 b v0 v1 v2 v3 v4 v5 v6 v7 W) :
  W.cell? ⟨b + 1, 0, none⟩ = some v0 ∧ W.cell? ⟨b + 1, 1, none⟩ = some v1 ∧ W.cell? ⟨b + 1, 2, none⟩ = some v2 ∧ W.cell? ⟨b + 1, 3, none⟩ = some v3 ∧ W.cell? ⟨b + 1, 4, none⟩ = some v4 ∧ W.cell? ⟨b + 1, 5, none⟩ = some v5 ∧ W.cell? ⟨b + 1, 6, none⟩ = some v6 ∧ W.cell? ⟨b + 1, 7, none⟩ = some v7 ∧ (∀ k, W.frozen? ⟨b + 1, k, none⟩ = false) ∧ W.cell? ⟨b, 0, none⟩ = some (.int .i64 0) ∧ W.cell? ⟨b, 1, none⟩ = some (.bool false) ∧ W.cell? ⟨b, 2, none⟩ = some (.int .i64 0) ∧ W.cell? ⟨b, 3, none⟩ = some (.string ⟨#[]⟩) ∧ W.cell? ⟨b, 4, none⟩ = some (.int .i64 0) ∧ W.cell? ⟨b, 5, none⟩ = some (.slice none 0 0) ∧ W.cell? ⟨b, 6, none⟩ = some (.slice none 0 0) ∧ W.cell? ⟨b, 7, none⟩ = some (.slice none 0 0) ∧ (∀ k, W.frozen? ⟨b, k, none⟩ = false) := by
 refine ⟨?_, ?_, ?_, ?_, ?_, ?_, ?_, ?_, fun k => frozen_of_row W (b + 1) k _ 27 h.2, ?_, ?_, ?_, ?_, ?_, ?_, ?_, ?_, fun k => frozen_of_row W b k _ 27 h.1⟩
 all_goals first | (rw [cellB h.2]; rfl) | (rw [cellB h.1]; rfl)
theorem Box8.set {b : Nat} {v0 v1 v2 v3 v4 v5 v6 v7 : Value} {W : World} (h : Box8 b v0 v1 v2 v3 v4 v5 v6 v7 W) (k : Nat) (v : Value) {u0 u1 u2 u3 u4 u5 u6 u7 : Value} (he : (#[v0, v1, v2, v3, v4, v5, v6, v7] : Array Value).setIfInBounds k v = #[u0, u1, u2, u3, u4, u5, u6, u7]) : Box8 b u0 u1 u2 u3 u4 u5 u6 u7 (W.setCell ⟨b + 1, k, none⟩ v) := by
 refine ⟨?_, ?_⟩
 ·rw [Below.heap_setCell W ⟨b + 1, k, none⟩ v b (by simp)]; exact h.1
 ·rw [heap_setCell_same W (b + 1) k _ 27 v h.2, he]
theorem Box8.lt {b : Nat} {v0 v1 v2 v3 v4 v5 v6 v7 : Value} {W : World} (h : Box8 b v0 v1 v2 v3 v4 v5 v6 v7 W) : b + 1 < W.heap.size := (Array.getElem?_eq_some_iff.1 h.2).1
theorem own_shape {w : World} {base : Nat} {e : TypeId} {size : Nat} {v : Value} {n : Nat} {xs : List Value} (h : w.ownsRow base e size v n xs) : ∃ a c, v = .slice a n c := by
 obtain ⟨_, ⟨h1, h2⟩ | ⟨g, cap, cur, hv, _⟩⟩ := h
 ·subst h2; exact ⟨none, 0, h1⟩
 ·exact ⟨_, _, hv⟩
def Lst (lo hi : Nat) (W : World) (v : Value) (rs : List Rec) : Prop := W.ownsRow lo 71 5 v rs.length (rcells rs) ∧ ∀ k, v.ownBlock = some k → k < hi
theorem Lst.only {lo hi R : Nat} {W W' : World} {v : Value} {rs : List Rec} (h : Lst lo hi W v rs) (ho : Only R W W') (hR : R < lo) : Lst lo hi W' v rs := ⟨h.1.only ho hR, h.2⟩
theorem Lst.box {lo hi : Nat} {W : World} {v : Value} {rs : List Rec} (h : Lst lo hi W v rs) {b : Nat} (hb : b < lo) (k : Nat) (u : Value) : Lst lo hi (W.setCell ⟨b, k, none⟩ u) v rs := ⟨ownsRow_setCell_below h.1 hb u, h.2⟩
theorem Lst.lower {lo lo' hi : Nat} {W : World} {v : Value} {rs : List Rec} (h : Lst lo hi W v rs) (hl : lo' ≤ lo) : Lst lo' hi W v rs := by
 refine ⟨?_, h.2⟩
 obtain ⟨h1, h2 | ⟨g, cap, cur, hv, hg, r⟩⟩ := h.1
 ·exact ⟨h1, .inl h2⟩
 ·exact ⟨h1, .inr ⟨g, cap, cur, hv, Nat.le_trans hl hg, r⟩⟩
def fill8 (b : Nat) (v0 v1 v2 v3 v4 v5 v6 v7 : Value) (W : World) : World :=
 ((((((((W.setCell ⟨b, 0, none⟩ v0).setCell ⟨b, 1, none⟩ v1).setCell ⟨b, 2, none⟩ v2).setCell ⟨b, 3, none⟩ v3).setCell ⟨b, 4, none⟩ v4).setCell ⟨b, 5, none⟩ v5).setCell ⟨b, 6, none⟩ v6).setCell ⟨b, 7, none⟩ v7)
theorem Box8.fill {b : Nat} {v0 v1 v2 v3 v4 v5 v6 v7 : Value} {W : World} (h : Box8 b v0 v1 v2 v3 v4 v5 v6 v7 W) : (fill8 b v0 v1 v2 v3 v4 v5 v6 v7 W).heap[b]? = some (.cells #[v0, v1, v2, v3, v4, v5, v6, v7] 27 (0, 0)) := by
 unfold fill8
 have e1 : (W.setCell ⟨b, 0, none⟩ v0).heap[b]? = some (.cells #[v0, .bool false, .int .i64 0, .string ⟨#[]⟩, .int .i64 0, .slice none 0 0, .slice none 0 0, .slice none 0 0] 27 (0, 0)) := by rw [heap_setCell_same _ b 0 _ 27 v0 h.1]; rfl
 have e2 : ((W.setCell ⟨b, 0, none⟩ v0).setCell ⟨b, 1, none⟩ v1).heap[b]? = some (.cells #[v0, v1, .int .i64 0, .string ⟨#[]⟩, .int .i64 0, .slice none 0 0, .slice none 0 0, .slice none 0 0] 27 (0, 0)) := by rw [heap_setCell_same _ b 1 _ 27 v1 e1]; rfl
 have e3 : (((W.setCell ⟨b, 0, none⟩ v0).setCell ⟨b, 1, none⟩ v1).setCell ⟨b, 2, none⟩ v2).heap[b]? = some (.cells #[v0, v1, v2, .string ⟨#[]⟩, .int .i64 0, .slice none 0 0, .slice none 0 0, .slice none 0 0] 27 (0, 0)) := by rw [heap_setCell_same _ b 2 _ 27 v2 e2]; rfl
 have e4 : ((((W.setCell ⟨b, 0, none⟩ v0).setCell ⟨b, 1, none⟩ v1).setCell ⟨b, 2, none⟩ v2).setCell ⟨b, 3, none⟩ v3).heap[b]? = some (.cells #[v0, v1, v2, v3, .int .i64 0, .slice none 0 0, .slice none 0 0, .slice none 0 0] 27 (0, 0)) := by rw [heap_setCell_same _ b 3 _ 27 v3 e3]; rfl
 have e5 : (((((W.setCell ⟨b, 0, none⟩ v0).setCell ⟨b, 1, none⟩ v1).setCell ⟨b, 2, none⟩ v2).setCell ⟨b, 3, none⟩ v3).setCell ⟨b, 4, none⟩ v4).heap[b]? = some (.cells #[v0, v1, v2, v3, v4, .slice none 0 0, .slice none 0 0, .slice none 0 0] 27 (0, 0)) := by rw [heap_setCell_same _ b 4 _ 27 v4 e4]; rfl
 have e6 : ((((((W.setCell ⟨b, 0, none⟩ v0).setCell ⟨b, 1, none⟩ v1).setCell ⟨b, 2, none⟩ v2).setCell ⟨b, 3, none⟩ v3).setCell ⟨b, 4, none⟩ v4).setCell ⟨b, 5, none⟩ v5).heap[b]? = some (.cells #[v0, v1, v2, v3, v4, v5, .slice none 0 0, .slice none 0 0] 27 (0, 0)) := by rw [heap_setCell_same _ b 5 _ 27 v5 e5]; rfl
 have e7 : (((((((W.setCell ⟨b, 0, none⟩ v0).setCell ⟨b, 1, none⟩ v1).setCell ⟨b, 2, none⟩ v2).setCell ⟨b, 3, none⟩ v3).setCell ⟨b, 4, none⟩ v4).setCell ⟨b, 5, none⟩ v5).setCell ⟨b, 6, none⟩ v6).heap[b]? = some (.cells #[v0, v1, v2, v3, v4, v5, v6, .slice none 0 0] 27 (0, 0)) := by rw [heap_setCell_same _ b 6 _ 27 v6 e6]; rfl
 have e8 : ((((((((W.setCell ⟨b, 0, none⟩ v0).setCell ⟨b, 1, none⟩ v1).setCell ⟨b, 2, none⟩ v2).setCell ⟨b, 3, none⟩ v3).setCell ⟨b, 4, none⟩ v4).setCell ⟨b, 5, none⟩ v5).setCell ⟨b, 6, none⟩ v6).setCell ⟨b, 7, none⟩ v7).heap[b]? = some (.cells #[v0, v1, v2, v3, v4, v5, v6, v7] 27 (0, 0)) := by rw [heap_setCell_same _ b 7 _ 27 v7 e7]; rfl
 rw [e8]
theorem Only.fill {R b : Nat} {v0 v1 v2 v3 v4 v5 v6 v7 : Value} {w W : World} (h : Only R w W) (hb : w.heap.size ≤ b) : Only R w (fill8 b v0 v1 v2 v3 v4 v5 v6 v7 W) :=
 ((((((((h.boxed hb _ _).boxed hb _ _).boxed hb _ _).boxed hb _ _).boxed hb _ _).boxed hb _ _).boxed hb _ _).boxed hb _ _)
theorem Lst.fill {lo hi b : Nat} {v0 v1 v2 v3 v4 v5 v6 v7 : Value} {W : World} {v : Value} {rs : List Rec} (h : Lst lo hi W v rs) (hb : b < lo) : Lst lo hi (fill8 b v0 v1 v2 v3 v4 v5 v6 v7 W) v rs :=
 ((((((((h.box hb _ _).box hb _ _).box hb _ _).box hb _ _).box hb _ _).box hb _ _).box hb _ _).box hb _ _)
theorem Lst.drew {lo hi : Nat} {W : World} {v : Value} {rs : List Rec} (h : Lst lo hi W v rs) : Lst lo hi W.drew v rs := h
theorem fill8_cells {b : Nat} {v0 v1 v2 v3 v4 v5 v6 v7 : Value} {W : World} (h : W.heap[b]? = some (.cells #[v0, v1, v2, v3, v4, v5, v6, v7] 27 (0, 0))) :
  W.cell? ⟨b, 0, none⟩ = some v0 ∧ W.cell? ⟨b, 1, none⟩ = some v1 ∧ W.cell? ⟨b, 2, none⟩ = some v2 ∧ W.cell? ⟨b, 3, none⟩ = some v3 ∧ W.cell? ⟨b, 4, none⟩ = some v4 ∧ W.cell? ⟨b, 5, none⟩ = some v5 ∧ W.cell? ⟨b, 6, none⟩ = some v6 ∧ W.cell? ⟨b, 7, none⟩ = some v7 := by
 refine ⟨?_, ?_, ?_, ?_, ?_, ?_, ?_, ?_⟩
 all_goals (rw [cellB h]; rfl)
def MRes (R : Nat) (w : World) (o : Option Msg) (e : Ending) (w' : World) : Prop :=
 Only R w w' ∧ (match o with
  | some m => ∃ va vs vm b1 b2, e = .returned (.agg #[.int .i64 m.id, .bool m.reply, .int .i64 m.code, .string m.name, .int .i64 m.ty, va, vs, vm]) ∧ Lst w.heap.size b1 w' va m.answer ∧ Lst b1 b2 w' vs m.servers ∧ Lst b2 w'.heap.size w' vm m.more ∧ w.heap.size ≤ b1 ∧ b1 ≤ b2 ∧ b2 ≤ w'.heap.size
  | none => e = .panicked gaveUp)
set_option maxHeartbeats 8000000 in
theorem messageR (R : Nat) (s : ByteArray) (w : World) (hr : Rd R s 0 w) (hsz : s.size ≤ 1048576) :
  Calls Tryz.prog 103 #[.pointer (some ⟨R, 0, none⟩)] w (MRes R w (msgS (tl s))) := by
 have hRl := hr.lt
 obtain ⟨O, hO⟩ : ∃ O, O = Obj.cells #[.int .i64 0, .bool false, .int .i64 0, .string ⟨#[]⟩, .int .i64 0, .slice none 0 0, .slice none 0 0, .slice none 0 0] 27 := ⟨_, rfl⟩
 by_cases hs : s.size ≤ 1000
 case neg =>
  have hd : decide (s.size ≤ 1000) = false := decide_eq_false hs
  obtain ⟨c0, c1, cf⟩ := (hr.alloc O).cells
  rw [show msgS (tl s) = none by unfold msgS; rw [if_neg (by rw [tl_length]; exact hs)]]
  subst hO
  go_enter Tryz.func103, Tryz.ntmps103
  go_wp2_with fail
  refine (must_not _ _ (by first | rfl | (simp; omega))).mono ?_
  rintro e w' ⟨rfl, rfl⟩
  exact ⟨rfl, (Only.refl R w).alloc _, rfl⟩
 case pos =>
 obtain ⟨c0, c1, cf⟩ := (hr.alloc O).cells
 obtain ⟨W0, hW0⟩ : ∃ W0, W0 = (w.alloc O).alloc O := ⟨_, rfl⟩
 have B0 : Box8 w.heap.size (.int .i64 0) (.bool false) (.int .i64 0) (.string ⟨#[]⟩) (.int .i64 0) (.slice none 0 0) (.slice none 0 0) (.slice none 0 0) W0 := by
  rw [hW0]
  refine ⟨?_, ?_⟩
  ·rw [Below.heap_alloc (w.alloc O) O w.heap.size (by simp), heap_alloc_new, hO]
  ·have := heap_alloc_new (w.alloc O) O
   rw [World.size_alloc] at this
   rw [this, hO]
 have r0 : Rd R s 0 W0 := by rw [hW0]; exact (hr.alloc O).alloc O
 have on0 : Only R w W0 := by rw [hW0]; exact ((Only.refl R w).alloc O).alloc O
 have HW : Hid ((w.alloc (Obj.cells #[.int .i64 0, .bool false, .int .i64 0, .string ⟨#[]⟩, .int .i64 0, .slice none 0 0, .slice none 0 0, .slice none 0 0] 27)).alloc (Obj.cells #[.int .i64 0, .bool false, .int .i64 0, .string ⟨#[]⟩, .int .i64 0, .slice none 0 0, .slice none 0 0, .slice none 0 0] 27) = W0) := by rw [hW0, hO]; rfl
 subst hO
 have hmsg : msgS (tl s) = ((twoS (tl s) 0).bind fun id => (kindS (tl s) id.2).bind fun rep => (numS (tl s) 0 3 rep.2).bind fun code => (nameS (tl s) code.2).bind fun nm => (numS (tl s) 0 4 nm.2).bind fun ty =>
   (numS (tl s) 0 10 ty.2).bind fun ka => (numS (tl s) 0 10 ka.2).bind fun kb => (numS (tl s) 0 10 kb.2).bind fun kc =>
   (recsS (tl s) ka.1.toNat kc.2).bind fun la => (recsS (tl s) kb.1.toNat la.2).bind fun lb => (recsS (tl s) kc.1.toNat lb.2).bind fun lc =>
   if lc.2 = (tl s).length then some ⟨id.1, rep.1, code.1, mk nm.1, ty.1, la.1, lb.1, lc.1⟩ else none) := by unfold msgS; rw [if_pos (by rw [tl_length]; exact hs)]
 have HM : Hid (msgS (tl s) = ((twoS (tl s) 0).bind fun id => (kindS (tl s) id.2).bind fun rep => (numS (tl s) 0 3 rep.2).bind fun code => (nameS (tl s) code.2).bind fun nm => (numS (tl s) 0 4 nm.2).bind fun ty =>
   (numS (tl s) 0 10 ty.2).bind fun ka => (numS (tl s) 0 10 ka.2).bind fun kb => (numS (tl s) 0 10 kb.2).bind fun kc =>
   (recsS (tl s) ka.1.toNat kc.2).bind fun la => (recsS (tl s) kb.1.toNat la.2).bind fun lb => (recsS (tl s) kc.1.toNat lb.2).bind fun lc =>
   if lc.2 = (tl s).length then some ⟨id.1, rep.1, code.1, mk nm.1, ty.1, la.1, lb.1, lc.1⟩ else none)) := hmsg
 clear hmsg hW0
 go_enter Tryz.func103, Tryz.ntmps103
 go_wp2_with fail
 refine (must_yes _ _ (by first | rfl | (simp; omega))).mono ?_
 rintro e w' ⟨rfl, hw'⟩
 subst hw'
 go_wp2_with fail
 rw [HW.out]
 clear HW
 cases h0 : twoS (tl s) 0 with
 | none =>
  refine (Res.no (twoBytesR R s 0 _ r0 hs) h0).mono ?_
  rintro e w1 ⟨rfl, o1⟩
  exact ⟨rfl, by rw [show msgS (tl s) = none by rw [HM.out]; simp [h0]]; exact ⟨on0.trans o1, rfl⟩⟩
 | some x =>
 obtain ⟨id, m1⟩ := x
 have bd0 := twoS_bd h0
 rw [tl_length] at bd0
 refine (Res.ok (twoBytesR R s 0 _ r0 hs) h0).mono ?_
 rintro e w0 ⟨rfl, q0, o1⟩
 have C0 := B0.only o1 hRl
 have p0 := on0.trans o1
 clear B0 r0 on0 o1
 obtain ⟨x0, x1, x2, x3, x4, x5, x6, x7, xf, y0, y1, y2, y3, y4, y5, y6, y7, yf⟩ := C0.cells
 go_wp2_with fail
 obtain ⟨X0, hX⟩ : ∃ X, X = w0.setCell ⟨w.heap.size + 1, 0, none⟩ (.int .i64 id) := ⟨_, rfl⟩
 rw [← hX]
 have D0 : Box8 w.heap.size (.int .i64 id) (.bool false) (.int .i64 0) (.string ⟨#[]⟩) (.int .i64 0) (.slice none 0 0) (.slice none 0 0) (.slice none 0 0) X0 := by rw [hX]; exact C0.set 0 _ rfl
 have s0 : Rd R s m1 X0 := by rw [hX]; exact q0.row (by omega) _ _
 have n0 : Only R w X0 := by rw [hX]; exact p0.boxed (by omega) _ _
 clear hX x0 x1 x2 x3 x4 x5 x6 x7 xf y0 y1 y2 y3 y4 y5 y6 y7 yf C0 q0 p0 w0
 cases h1 : kindS (tl s) m1 with
 | none =>
  refine (Res.no (isReplyR R s m1 _ s0 hs) h1).mono ?_
  rintro e w1 ⟨rfl, o1⟩
  exact ⟨rfl, by rw [show msgS (tl s) = none by rw [HM.out]; simp [h0, h1]]; exact ⟨n0.trans o1, rfl⟩⟩
 | some x =>
 obtain ⟨rep, m2⟩ := x
 have bd1 := kindS_bd h1
 rw [tl_length] at bd1
 refine (Res.ok (isReplyR R s m1 _ s0 hs) h1).mono ?_
 rintro e w1 ⟨rfl, q1, o1⟩
 have C1 := D0.only o1 hRl
 have p1 := n0.trans o1
 clear D0 s0 n0 o1
 obtain ⟨x0, x1, x2, x3, x4, x5, x6, x7, xf, y0, y1, y2, y3, y4, y5, y6, y7, yf⟩ := C1.cells
 go_wp2_with fail
 obtain ⟨X1, hX⟩ : ∃ X, X = w1.setCell ⟨w.heap.size + 1, 1, none⟩ (.bool rep) := ⟨_, rfl⟩
 rw [← hX]
 have D1 : Box8 w.heap.size (.int .i64 id) (.bool rep) (.int .i64 0) (.string ⟨#[]⟩) (.int .i64 0) (.slice none 0 0) (.slice none 0 0) (.slice none 0 0) X1 := by rw [hX]; exact C1.set 1 _ rfl
 have s1 : Rd R s m2 X1 := by rw [hX]; exact q1.row (by omega) _ _
 have n1 : Only R w X1 := by rw [hX]; exact p1.boxed (by omega) _ _
 clear hX x0 x1 x2 x3 x4 x5 x6 x7 xf y0 y1 y2 y3 y4 y5 y6 y7 yf C1 q1 p1 w1
 cases h2 : numS (tl s) 0 3 m2 with
 | none =>
  refine (Res.no (numberR R s m2 0 3 _ s1 hs) h2).mono ?_
  rintro e w1 ⟨rfl, o1⟩
  exact ⟨rfl, by rw [show msgS (tl s) = none by rw [HM.out]; simp [h0, h1, h2]]; exact ⟨n1.trans o1, rfl⟩⟩
 | some x =>
 obtain ⟨code, m3⟩ := x
 have bd2 := numS_bd h2
 rw [tl_length] at bd2
 refine (Res.ok (numberR R s m2 0 3 _ s1 hs) h2).mono ?_
 rintro e w2 ⟨rfl, q2, o1⟩
 have C2 := D1.only o1 hRl
 have p2 := n1.trans o1
 clear D1 s1 n1 o1
 obtain ⟨x0, x1, x2, x3, x4, x5, x6, x7, xf, y0, y1, y2, y3, y4, y5, y6, y7, yf⟩ := C2.cells
 go_wp2_with fail
 obtain ⟨X2, hX⟩ : ∃ X, X = w2.setCell ⟨w.heap.size + 1, 2, none⟩ (.int .i64 code) := ⟨_, rfl⟩
 rw [← hX]
 have D2 : Box8 w.heap.size (.int .i64 id) (.bool rep) (.int .i64 code) (.string ⟨#[]⟩) (.int .i64 0) (.slice none 0 0) (.slice none 0 0) (.slice none 0 0) X2 := by rw [hX]; exact C2.set 2 _ rfl
 have s2 : Rd R s m3 X2 := by rw [hX]; exact q2.row (by omega) _ _
 have n2 : Only R w X2 := by rw [hX]; exact p2.boxed (by omega) _ _
 clear hX x0 x1 x2 x3 x4 x5 x6 x7 xf y0 y1 y2 y3 y4 y5 y6 y7 yf C2 q2 p2 w2
 cases h3 : nameS (tl s) m3 with
 | none =>
  refine (Res.no (nameR R s m3 _ s2 hs (by omega)) h3).mono ?_
  rintro e w1 ⟨rfl, o1⟩
  exact ⟨rfl, by rw [show msgS (tl s) = none by rw [HM.out]; simp [h0, h1, h2, h3]]; exact ⟨n2.trans o1, rfl⟩⟩
 | some x =>
 obtain ⟨nm, m4⟩ := x
 have bd3 := nameS_bd h3
 rw [tl_length] at bd3
 refine (Res.ok (nameR R s m3 _ s2 hs (by omega)) h3).mono ?_
 rintro e w3 ⟨rfl, q3, o1⟩
 have C3 := D2.only o1 hRl
 have p3 := n2.trans o1
 clear D2 s2 n2 o1
 obtain ⟨x0, x1, x2, x3, x4, x5, x6, x7, xf, y0, y1, y2, y3, y4, y5, y6, y7, yf⟩ := C3.cells
 go_wp2_with fail
 obtain ⟨X3, hX⟩ : ∃ X, X = w3.setCell ⟨w.heap.size + 1, 3, none⟩ (.string (mk nm)) := ⟨_, rfl⟩
 rw [← hX]
 have D3 : Box8 w.heap.size (.int .i64 id) (.bool rep) (.int .i64 code) (.string (mk nm)) (.int .i64 0) (.slice none 0 0) (.slice none 0 0) (.slice none 0 0) X3 := by rw [hX]; exact C3.set 3 _ rfl
 have s3 : Rd R s m4 X3 := by rw [hX]; exact q3.row (by omega) _ _
 have n3 : Only R w X3 := by rw [hX]; exact p3.boxed (by omega) _ _
 clear hX x0 x1 x2 x3 x4 x5 x6 x7 xf y0 y1 y2 y3 y4 y5 y6 y7 yf C3 q3 p3 w3
 cases h4 : numS (tl s) 0 4 m4 with
 | none =>
  refine (Res.no (numberR R s m4 0 4 _ s3 hs) h4).mono ?_
  rintro e w1 ⟨rfl, o1⟩
  exact ⟨rfl, by rw [show msgS (tl s) = none by rw [HM.out]; simp [h0, h1, h2, h3, h4]]; exact ⟨n3.trans o1, rfl⟩⟩
 | some x =>
 obtain ⟨ty, m5⟩ := x
 have bd4 := numS_bd h4
 rw [tl_length] at bd4
 refine (Res.ok (numberR R s m4 0 4 _ s3 hs) h4).mono ?_
 rintro e w4 ⟨rfl, q4, o1⟩
 have C4 := D3.only o1 hRl
 have p4 := n3.trans o1
 clear D3 s3 n3 o1
 obtain ⟨x0, x1, x2, x3, x4, x5, x6, x7, xf, y0, y1, y2, y3, y4, y5, y6, y7, yf⟩ := C4.cells
 go_wp2_with fail
 obtain ⟨X4, hX⟩ : ∃ X, X = w4.setCell ⟨w.heap.size + 1, 4, none⟩ (.int .i64 ty) := ⟨_, rfl⟩
 rw [← hX]
 have D4 : Box8 w.heap.size (.int .i64 id) (.bool rep) (.int .i64 code) (.string (mk nm)) (.int .i64 ty) (.slice none 0 0) (.slice none 0 0) (.slice none 0 0) X4 := by rw [hX]; exact C4.set 4 _ rfl
 have s4 : Rd R s m5 X4 := by rw [hX]; exact q4.row (by omega) _ _
 have n4 : Only R w X4 := by rw [hX]; exact p4.boxed (by omega) _ _
 clear hX x0 x1 x2 x3 x4 x5 x6 x7 xf y0 y1 y2 y3 y4 y5 y6 y7 yf C4 q4 p4 w4
 cases h5 : numS (tl s) 0 10 m5 with
 | none =>
  refine (Res.no (numberR R s m5 0 10 _ s4 hs) h5).mono ?_
  rintro e w1 ⟨rfl, o1⟩
  exact ⟨rfl, by rw [show msgS (tl s) = none by rw [HM.out]; simp [h0, h1, h2, h3, h4, h5]]; exact ⟨n4.trans o1, rfl⟩⟩
 | some x =>
 obtain ⟨ka, m6⟩ := x
 have bd5 := numS_bd h5
 rw [tl_length] at bd5
 refine (Res.ok (numberR R s m5 0 10 _ s4 hs) h5).mono ?_
 rintro e w5 ⟨rfl, q5, o1⟩
 have C5 := D4.only o1 hRl
 have p5 := n4.trans o1
 clear D4 s4 n4 o1
 go_wp2_with fail
 cases h6 : numS (tl s) 0 10 m6 with
 | none =>
  refine (Res.no (numberR R s m6 0 10 _ q5 hs) h6).mono ?_
  rintro e w1 ⟨rfl, o1⟩
  exact ⟨rfl, by rw [show msgS (tl s) = none by rw [HM.out]; simp [h0, h1, h2, h3, h4, h5, h6]]; exact ⟨p5.trans o1, rfl⟩⟩
 | some x =>
 obtain ⟨kb, m7⟩ := x
 have bd6 := numS_bd h6
 rw [tl_length] at bd6
 refine (Res.ok (numberR R s m6 0 10 _ q5 hs) h6).mono ?_
 rintro e w6 ⟨rfl, q6, o1⟩
 have C6 := C5.only o1 hRl
 have p6 := p5.trans o1
 clear C5 q5 p5 o1
 go_wp2_with fail
 cases h7 : numS (tl s) 0 10 m7 with
 | none =>
  refine (Res.no (numberR R s m7 0 10 _ q6 hs) h7).mono ?_
  rintro e w1 ⟨rfl, o1⟩
  exact ⟨rfl, by rw [show msgS (tl s) = none by rw [HM.out]; simp [h0, h1, h2, h3, h4, h5, h6, h7]]; exact ⟨p6.trans o1, rfl⟩⟩
 | some x =>
 obtain ⟨kc, m8⟩ := x
 have bd7 := numS_bd h7
 rw [tl_length] at bd7
 refine (Res.ok (numberR R s m7 0 10 _ q6 hs) h7).mono ?_
 rintro e w7 ⟨rfl, q7, o1⟩
 have C7 := C6.only o1 hRl
 have p7 := p6.trans o1
 clear C6 q6 p6 o1
 go_wp2_with fail
 obtain ⟨kan, rfl⟩ : ∃ kn : Nat, ka = kn := ⟨ka.toNat, by omega⟩
 have ht0 : Box8 w.heap.size (.int .i64 id) (.bool rep) (.int .i64 code) (.string (mk nm)) (.int .i64 ty) (.slice none 0 0) (.slice none 0 0) (.slice none 0 0) w7 := C7
 have hlt0 : w.heap.size + 1 < w7.heap.size := ht0.lt
 cases h8 : recsS (tl s) kan m8 with
 | none =>
  refine (KRes.no (listR R s m8 kan _ q7 hs (by omega) (by omega)) h8).mono ?_
  rintro e w1 ⟨rfl, o1⟩
  exact ⟨rfl, by rw [show msgS (tl s) = none by rw [HM.out]; simp [h0, h1, h2, h3, h4, h5, h6, h7, h8]]; exact ⟨p7.trans o1, rfl⟩⟩
 | some x =>
 obtain ⟨la, m9⟩ := x
 have bd8a := (recsS_bd _ _ h8 (by rw [tl_length]; omega)).1
 have bd8b := (recsS_bd _ _ h8 (by rw [tl_length]; omega)).2.1
 rw [tl_length] at bd8b
 refine (KRes.ok (listR R s m8 kan _ q7 hs (by omega) (by omega)) h8).mono ?_
 rintro e w8 ⟨va, rfl, ow8, q8, o1⟩
 obtain ⟨vaa, vac, rfl⟩ := own_shape ow8
 have C8 := C7.only o1 hRl
 have p8 := p7.trans o1
 have L0 : Lst w7.heap.size w8.heap.size w8 (.slice vaa la.length vac) la := ⟨ow8, fun k hk => (ow8.lt k hk).2⟩
 have sz0 := o1.size
 clear ht0 C7 q7 p7 o1 ow8
 obtain ⟨x0, x1, x2, x3, x4, x5, x6, x7, xf, y0, y1, y2, y3, y4, y5, y6, y7, yf⟩ := C8.cells
 go_wp2_with fail
 obtain ⟨X8, hX⟩ : ∃ X, X = w8.setCell ⟨w.heap.size + 1, 5, none⟩ (.slice vaa la.length vac) := ⟨_, rfl⟩
 rw [← hX]
 have D8 : Box8 w.heap.size (.int .i64 id) (.bool rep) (.int .i64 code) (.string (mk nm)) (.int .i64 ty) (.slice vaa la.length vac) (.slice none 0 0) (.slice none 0 0) X8 := by rw [hX]; exact C8.set 5 _ rfl
 have s8 : Rd R s m9 X8 := by rw [hX]; exact q8.row (by omega) _ _
 have n8 : Only R w X8 := by rw [hX]; exact p8.boxed (by omega) _ _
 have hXs0 : X8.heap.size = w8.heap.size := by rw [hX]; simp
 have K0 : Lst w7.heap.size w8.heap.size X8 (.slice vaa la.length vac) la := by rw [hX]; exact L0.box (by omega) _ _
 clear hX x0 x1 x2 x3 x4 x5 x6 x7 xf y0 y1 y2 y3 y4 y5 y6 y7 yf C8 q8 p8
 obtain ⟨kbn, rfl⟩ : ∃ kn : Nat, kb = kn := ⟨kb.toNat, by omega⟩
 have ht1 : Box8 w.heap.size (.int .i64 id) (.bool rep) (.int .i64 code) (.string (mk nm)) (.int .i64 ty) (.slice vaa la.length vac) (.slice none 0 0) (.slice none 0 0) X8 := D8
 have hlt1 : w.heap.size + 1 < X8.heap.size := ht1.lt
 cases h9 : recsS (tl s) kbn m9 with
 | none =>
  refine (KRes.no (listR R s m9 kbn _ s8 hs (by omega) (by omega)) h9).mono ?_
  rintro e w1 ⟨rfl, o1⟩
  exact ⟨rfl, by rw [show msgS (tl s) = none by rw [HM.out]; simp [h0, h1, h2, h3, h4, h5, h6, h7, h8, h9]]; exact ⟨n8.trans o1, rfl⟩⟩
 | some x =>
 obtain ⟨lb, m10⟩ := x
 have bd9a := (recsS_bd _ _ h9 (by rw [tl_length]; omega)).1
 have bd9b := (recsS_bd _ _ h9 (by rw [tl_length]; omega)).2.1
 rw [tl_length] at bd9b
 refine (KRes.ok (listR R s m9 kbn _ s8 hs (by omega) (by omega)) h9).mono ?_
 rintro e w9 ⟨vs, rfl, ow9, q9, o1⟩
 obtain ⟨vsa, vsc, rfl⟩ := own_shape ow9
 have C9 := D8.only o1 hRl
 have p9 := n8.trans o1
 have L1 : Lst X8.heap.size w9.heap.size w9 (.slice vsa lb.length vsc) lb := ⟨ow9, fun k hk => (ow9.lt k hk).2⟩
 have sz1 := o1.size
 have K0c1 := K0.only o1 (by omega)
 clear ht1 D8 s8 n8 o1 ow9
 obtain ⟨x0, x1, x2, x3, x4, x5, x6, x7, xf, y0, y1, y2, y3, y4, y5, y6, y7, yf⟩ := C9.cells
 go_wp2_with fail
 obtain ⟨X9, hX⟩ : ∃ X, X = w9.setCell ⟨w.heap.size + 1, 6, none⟩ (.slice vsa lb.length vsc) := ⟨_, rfl⟩
 rw [← hX]
 have D9 : Box8 w.heap.size (.int .i64 id) (.bool rep) (.int .i64 code) (.string (mk nm)) (.int .i64 ty) (.slice vaa la.length vac) (.slice vsa lb.length vsc) (.slice none 0 0) X9 := by rw [hX]; exact C9.set 6 _ rfl
 have s9 : Rd R s m10 X9 := by rw [hX]; exact q9.row (by omega) _ _
 have n9 : Only R w X9 := by rw [hX]; exact p9.boxed (by omega) _ _
 have hXs1 : X9.heap.size = w9.heap.size := by rw [hX]; simp
 have K1 : Lst X8.heap.size w9.heap.size X9 (.slice vsa lb.length vsc) lb := by rw [hX]; exact L1.box (by omega) _ _
 have K0k1 := (show Lst _ _ X9 _ _ from by rw [hX]; exact K0c1.box (by omega) _ _)
 clear hX x0 x1 x2 x3 x4 x5 x6 x7 xf y0 y1 y2 y3 y4 y5 y6 y7 yf C9 q9 p9
 obtain ⟨kcn, rfl⟩ : ∃ kn : Nat, kc = kn := ⟨kc.toNat, by omega⟩
 have ht2 : Box8 w.heap.size (.int .i64 id) (.bool rep) (.int .i64 code) (.string (mk nm)) (.int .i64 ty) (.slice vaa la.length vac) (.slice vsa lb.length vsc) (.slice none 0 0) X9 := D9
 have hlt2 : w.heap.size + 1 < X9.heap.size := ht2.lt
 cases h10 : recsS (tl s) kcn m10 with
 | none =>
  refine (KRes.no (listR R s m10 kcn _ s9 hs (by omega) (by omega)) h10).mono ?_
  rintro e w1 ⟨rfl, o1⟩
  exact ⟨rfl, by rw [show msgS (tl s) = none by rw [HM.out]; simp [h0, h1, h2, h3, h4, h5, h6, h7, h8, h9, h10]]; exact ⟨n9.trans o1, rfl⟩⟩
 | some x =>
 obtain ⟨lc, m11⟩ := x
 have bd10a := (recsS_bd _ _ h10 (by rw [tl_length]; omega)).1
 have bd10b := (recsS_bd _ _ h10 (by rw [tl_length]; omega)).2.1
 rw [tl_length] at bd10b
 refine (KRes.ok (listR R s m10 kcn _ s9 hs (by omega) (by omega)) h10).mono ?_
 rintro e w10 ⟨vm, rfl, ow10, q10, o1⟩
 obtain ⟨vma, vmc, rfl⟩ := own_shape ow10
 have C10 := D9.only o1 hRl
 have p10 := n9.trans o1
 have L2 : Lst X9.heap.size w10.heap.size w10 (.slice vma lc.length vmc) lc := ⟨ow10, fun k hk => (ow10.lt k hk).2⟩
 have sz2 := o1.size
 have K0k1c2 := K0k1.only o1 (by omega)
 have K1c2 := K1.only o1 (by omega)
 clear ht2 D9 s9 n9 o1 ow10
 obtain ⟨x0, x1, x2, x3, x4, x5, x6, x7, xf, y0, y1, y2, y3, y4, y5, y6, y7, yf⟩ := C10.cells
 go_wp2
 obtain ⟨X10, hX⟩ : ∃ X, X = w10.setCell ⟨w.heap.size + 1, 7, none⟩ (.slice vma lc.length vmc) := ⟨_, rfl⟩
 rw [← hX]
 have D10 : Box8 w.heap.size (.int .i64 id) (.bool rep) (.int .i64 code) (.string (mk nm)) (.int .i64 ty) (.slice vaa la.length vac) (.slice vsa lb.length vsc) (.slice vma lc.length vmc) X10 := by rw [hX]; exact C10.set 7 _ rfl
 have s10 : Rd R s m11 X10 := by rw [hX]; exact q10.row (by omega) _ _
 have n10 : Only R w X10 := by rw [hX]; exact p10.boxed (by omega) _ _
 have hXs2 : X10.heap.size = w10.heap.size := by rw [hX]; simp
 have K2 : Lst X9.heap.size w10.heap.size X10 (.slice vma lc.length vmc) lc := by rw [hX]; exact L2.box (by omega) _ _
 have K0k2 := (show Lst _ _ X10 _ _ from by rw [hX]; exact K0k1c2.box (by omega) _ _)
 have K1k2 := (show Lst _ _ X10 _ _ from by rw [hX]; exact K1c2.box (by omega) _ _)
 clear hX x0 x1 x2 x3 x4 x5 x6 x7 xf y0 y1 y2 y3 y4 y5 y6 y7 yf C10 q10 p10
 obtain ⟨c0', c1', cf'⟩ := s10.cells
 by_cases he : m11 = s.size
 case neg =>
  have HN : Hid (msgS (tl s) = none) := by
   show _ = _
   rw [HM.out]
   simp only [h0, h1, h2, h3, h4, h5, h6, h7, h8, h9, h10, Option.bind_some, Int.toNat_natCast]
   rw [if_neg (by rw [tl_length]; exact he)]
  have hlt : ((m11 : Int) == (s.size : Int)) = false := by simp; omega
  have hlt2 : (m11 == s.size) = false := by simpa using he
  refine wp_region_held (S := fun w' => w'.cell? ⟨R, 0, none⟩ = some (.string s) ∧ w'.cell? ⟨R, 1, none⟩ = some (.int .i64 (m11 : Int))) (by kernel_rfl) ?_
  have hS : (X10.drew).cell? ⟨R, 0, none⟩ = some (.string s) ∧ (X10.drew).cell? ⟨R, 1, none⟩ = some (.int .i64 (m11 : Int)) := ⟨c0', c1'⟩
  change wpAnyH _ _ _ _ _ _ _ _ (World.drew _)
  refine tkY (i := 0) (v := .pointer (some ⟨R, 0, none⟩)) rfl (Or.inl ⟨by rfl, fun w hw => by obtain ⟨h0, h1⟩ := hw; go_simp⟩) hS ?_
  refine tkY (i := 1) (v := .pointer (some ⟨R, 0, none⟩)) rfl (Or.inl ⟨by rfl, fun w hw => by obtain ⟨h0, h1⟩ := hw; go_simp⟩) hS ?_
  refine tkY (i := 2) (v := .pointer (some ⟨R, 1, none⟩)) rfl (Or.inl ⟨by rfl, fun w hw => by obtain ⟨h0, h1⟩ := hw; go_simp⟩) hS ?_
  refine tkY (i := 3) (v := .int .i64 (m11 : Int)) rfl (Or.inl ⟨by rfl, fun w hw => by obtain ⟨h0, h1⟩ := hw; go_simp⟩) hS ?_
  refine tkY (i := 4) (v := .pointer (some ⟨R, 0, none⟩)) rfl (Or.inl ⟨by rfl, fun w hw => by obtain ⟨h0, h1⟩ := hw; go_simp⟩) hS ?_
  refine tkY (i := 5) (v := .pointer (some ⟨R, 0, none⟩)) rfl (Or.inl ⟨by rfl, fun w hw => by obtain ⟨h0, h1⟩ := hw; go_simp⟩) hS ?_
  refine tkY (i := 6) (v := .pointer (some ⟨R, 0, none⟩)) rfl (Or.inl ⟨by rfl, fun w hw => by obtain ⟨h0, h1⟩ := hw; go_simp⟩) hS ?_
  refine tkY (i := 7) (v := .string s) rfl (Or.inl ⟨by rfl, fun w hw => by obtain ⟨h0, h1⟩ := hw; go_simp⟩) hS ?_
  refine tkY (i := 8) (v := .int .i64 (s.size : Int)) rfl (Or.inl ⟨by rfl, fun w hw => by obtain ⟨h0, h1⟩ := hw; go_simp⟩) hS ?_
  refine tkY (i := 9) (v := .bool false) rfl (Or.inl ⟨by rfl, fun w hw => by obtain ⟨h0, h1⟩ := hw; go_simp⟩) hS ?_
  refine wpAnyH_ready (rs := [10]) (by kernel_rfl) (by simp) ?_
  refine AllReadyH.cons rfl (fun K hK => ?_) AllReadyH.nil
  go_simp
  refine (must_no _).mono ?_
  rintro e w' ⟨rfl, rfl⟩
  exact ⟨rfl, by rw [HN.out]; exact ⟨n10.drew, rfl⟩⟩
 case pos =>
 subst he
 have HF : Hid (msgS (tl s) = some ⟨id, rep, code, mk nm, ty, la, lb, lc⟩) := by
  show _ = _
  rw [HM.out]
  simp only [h0, h1, h2, h3, h4, h5, h6, h7, h8, h9, h10, Option.bind_some, Int.toNat_natCast]
  rw [if_pos (tl_length s).symm]
 clear HM h0 h1 h2 h3 h4 h5 h6 h7 h8 h9 h10
 obtain ⟨x0, x1, x2, x3, x4, x5, x6, x7, xf, y0, y1, y2, y3, y4, y5, y6, y7, yf⟩ := D10.cells
 go_region_held3 (fun w' => w'.cell? ⟨R, 0, none⟩ = some (.string s) ∧ w'.cell? ⟨R, 1, none⟩ = some (.int .i64 (s.size : Int))) (go_keep)
  (first
   | (go_at_call 137; refine (must_yes _ _ (by first | rfl | simp)).mono ?_; rintro e w' ⟨rfl, rfl⟩))
 go_wp2
 obtain ⟨Y, hY⟩ : ∃ Y, Y = fill8 w.heap.size (.int .i64 id) (.bool rep) (.int .i64 code) (.string (mk nm)) (.int .i64 ty) (.slice vaa la.length vac) (.slice vsa lb.length vsc) (.slice vma lc.length vmc) X10 := ⟨_, rfl⟩
 have hYb : Y.heap[w.heap.size]? = some (.cells #[.int .i64 id, .bool rep, .int .i64 code, .string (mk nm), .int .i64 ty, .slice vaa la.length vac, .slice vsa lb.length vsc, .slice vma lc.length vmc] 27 (0, 0)) := by rw [hY]; exact D10.fill
 have hYs : Y.heap.size = X10.heap.size := by rw [hY]; simp [fill8]
 have on11 : Only R w Y := by rw [hY]; exact n10.fill (by omega)
 have KA : Lst w.heap.size w8.heap.size Y (.slice vaa la.length vac) la := by rw [hY]; exact (K0k2.fill (by omega)).lower (by omega)
 have KB : Lst w8.heap.size w9.heap.size Y (.slice vsa lb.length vsc) lb := by rw [hY]; exact (K1k2.fill (by omega)).lower (by omega)
 have KC : Lst w9.heap.size Y.heap.size Y (.slice vma lc.length vmc) lc := by rw [hYs, hXs2, hY]; exact (K2.fill (by omega)).lower (by omega)
 unfold fill8 at hY
 rw [← hY]
 clear hY x0 x1 x2 x3 x4 x5 x6 x7 xf y0 y1 y2 y3 y4 y5 y6 y7 yf D10 n10 K0k2 K1k2 K2
 obtain ⟨x0, x1, x2, x3, x4, x5, x6, x7⟩ := fill8_cells hYb
 refine bodyPost_ret (v := .agg #[.int .i64 id, .bool rep, .int .i64 code, .string (mk nm), .int .i64 ty, .slice vaa la.length vac, .slice vsa lb.length vsc, .slice vma lc.length vmc]) (by simp [results, Tryz.results103, go_sem, x0, x1, x2, x3, x4, x5, x6, x7]) rfl ?_
 rw [HF.out]
 refine ⟨on11.drew, _, _, _, w8.heap.size, w9.heap.size, rfl, KA.drew, KB.drew, KC.drew, by omega, by omega, ?_⟩
 show w9.heap.size ≤ Y.heap.size
 omega
end Go.Proofs.YtefdokkadckbbaaGreatDoor
