/- The reader's record. -/
import Derived.Test.YtefdokkadckbbaaGreatDoorH6
namespace Go.Proofs.YtefdokkadckbbaaGreatDoor
open Go.RowKit
set_option maxRecDepth 100000

theorem nameS_bd {t : List UInt8} {n : Nat} {l : List UInt8} {m : Nat} (h : nameS t n = some (l, m)) : n < m ∧ m ≤ t.length := by
  unfold nameS at h
  cases h0 : lblS t n n with
  | none => rw [h0] at h; cases h
  | some x =>
    obtain ⟨l', m'⟩ := x
    obtain ⟨_, _, h3, h4⟩ := lblS_len _ _ _ _ _ h0
    rw [h0, Option.bind_some] at h
    simp only at h
    split at h
    · simp only [Option.some.injEq, Prod.mk.injEq] at h; omega
    · cases h
theorem numS_bd {t : List UInt8} {lo hi : Int} {n : Nat} {a : Int} {m : Nat} (h : numS t lo hi n = some (a, m)) : lo ≤ a ∧ a ≤ hi ∧ m = n + 1 ∧ n < t.length := by
  unfold numS at h
  cases h0 : byteS t n with
  | none => rw [h0] at h; cases h
  | some x =>
    obtain ⟨b, k⟩ := x
    have hb := byteS_bd h0
    rw [h0, Option.bind_some] at h
    simp only at h
    split at h
    · simp only [Option.some.injEq, Prod.mk.injEq] at h; omega
    · cases h
theorem twoS_bd {t : List UInt8} {n : Nat} {a : Int} {m : Nat} (h : twoS t n = some (a, m)) : 0 ≤ a ∧ a ≤ 65535 ∧ m = n + 2 ∧ m ≤ t.length := by
  unfold twoS at h
  cases h0 : byteS t n with
  | none => rw [h0] at h; cases h
  | some x =>
    obtain ⟨b, k⟩ := x
    have hb := byteS_bd h0
    rw [h0, Option.bind_some] at h
    simp only at h
    cases h1 : byteS t k with
    | none => rw [h1] at h; cases h
    | some y =>
      obtain ⟨c, k'⟩ := y
      have hc := byteS_bd h1
      rw [h1] at h
      simp only [Option.map_some, Option.some.injEq, Prod.mk.injEq] at h
      omega

/-- What a record of that type says. -/
def saidS (t : List UInt8) (nm : List UInt8) (ty ttl : Int) (n : Nat) : Option (Rec × Nat) :=
  if ty = 1 then (byteS t n).map fun b => (⟨mk nm, ty, ttl, b.1, ⟨#[]⟩⟩, b.2)
  else if ty = 2 ∨ ty = 3 then (nameS t n).map fun g => (⟨mk nm, ty, ttl, 0, mk g.1⟩, g.2)
  else some (⟨mk nm, ty, ttl, 0, ⟨#[]⟩⟩, n)
/-- A record, read. -/
def recS (t : List UInt8) (n : Nat) : Option (Rec × Nat) :=
  (nameS t n).bind fun a => (numS t 1 4 a.2).bind fun ty => (twoS t ty.2).bind fun ttl => if 1 ≤ ttl.1 ∧ ttl.1 ≤ 1000 then saidS t a.1 ty.1 ttl.1 ttl.2 else none

def recV (r : Rec) : Value := .agg #[.string r.name, .int .i64 r.ty, .int .i64 r.ttl, .int .i64 r.num, .string r.target]

/-- The two boxes of a record that is being read. -/
def Box2 (b : Nat) (v0 v1 v2 v3 v4 : Value) (W : World) : Prop :=
  W.heap[b]? = some (.cells #[.string ⟨#[]⟩, .int .i64 0, .int .i64 0, .int .i64 0, .string ⟨#[]⟩] 71 (0, 0)) ∧ W.heap[b + 1]? = some (.cells #[v0, v1, v2, v3, v4] 71 (0, 0))
theorem Box2.only {b R : Nat} {v0 v1 v2 v3 v4 : Value} {W W' : World} (h : Box2 b v0 v1 v2 v3 v4 W) (ho : Only R W W') (hR : R < b) : Box2 b v0 v1 v2 v3 v4 W' := by
  refine ⟨?_, ?_⟩
  · rw [ho.block b (Array.getElem?_eq_some_iff.1 h.1).1 (by omega)]; exact h.1
  · rw [ho.block (b + 1) (Array.getElem?_eq_some_iff.1 h.2).1 (by omega)]; exact h.2
theorem Box2.cells {b : Nat} {v0 v1 v2 v3 v4 : Value} {W : World} (h : Box2 b v0 v1 v2 v3 v4 W) :
    W.cell? ⟨b + 1, 0, none⟩ = some v0 ∧ W.cell? ⟨b + 1, 1, none⟩ = some v1 ∧ W.cell? ⟨b + 1, 2, none⟩ = some v2 ∧ W.cell? ⟨b + 1, 3, none⟩ = some v3 ∧ W.cell? ⟨b + 1, 4, none⟩ = some v4 ∧ (∀ k, W.frozen? ⟨b + 1, k, none⟩ = false) ∧
    W.cell? ⟨b, 0, none⟩ = some (.string ⟨#[]⟩) ∧ W.cell? ⟨b, 1, none⟩ = some (.int .i64 0) ∧ W.cell? ⟨b, 2, none⟩ = some (.int .i64 0) ∧ W.cell? ⟨b, 3, none⟩ = some (.int .i64 0) ∧ W.cell? ⟨b, 4, none⟩ = some (.string ⟨#[]⟩) ∧ (∀ k, W.frozen? ⟨b, k, none⟩ = false) := by
  refine ⟨?_, ?_, ?_, ?_, ?_, fun k => frozen_of_row W (b + 1) k _ 71 h.2, ?_, ?_, ?_, ?_, ?_, fun k => frozen_of_row W b k _ 71 h.1⟩
  all_goals first | (rw [cellB h.2]; rfl) | (rw [cellB h.1]; rfl)
theorem Box2.set {b : Nat} {v0 v1 v2 v3 v4 : Value} {W : World} (h : Box2 b v0 v1 v2 v3 v4 W) (k : Nat) (v : Value) {u0 u1 u2 u3 u4 : Value} (he : (#[v0, v1, v2, v3, v4] : Array Value).setIfInBounds k v = #[u0, u1, u2, u3, u4]) : Box2 b u0 u1 u2 u3 u4 (W.setCell ⟨b + 1, k, none⟩ v) := by
  refine ⟨?_, ?_⟩
  · rw [Below.heap_setCell W ⟨b + 1, k, none⟩ v b (by simp)]; exact h.1
  · rw [heap_setCell_same W (b + 1) k _ 71 v h.2, he]
theorem Only.boxed {R : Nat} {a w : World} (h : Only R a w) {g : Nat} (hg : a.heap.size ≤ g) (k : Nat) (v : Value) : Only R a (w.setCell ⟨g, k, none⟩ v) := h.row hg k v

set_option maxHeartbeats 4000000 in
theorem recordR (R : Nat) (s : ByteArray) (n : Nat) (w : World) (hr : Rd R s n w) (hs : s.size ≤ 1000) (hn : n ≤ 1000) :
    Calls Tryz.prog 190 #[.pointer (some ⟨R, 0, none⟩)] w (Res R s w recV (recS (tl s) n)) := by
  have hRl := hr.lt
  obtain ⟨O, hO⟩ : ∃ O, O = Obj.cells #[.string ⟨#[]⟩, .int .i64 0, .int .i64 0, .int .i64 0, .string ⟨#[]⟩] 71 := ⟨_, rfl⟩
  obtain ⟨W0, hW0⟩ : ∃ W0, W0 = (w.alloc O).alloc O := ⟨_, rfl⟩
  have B0 : Box2 w.heap.size (.string ⟨#[]⟩) (.int .i64 0) (.int .i64 0) (.int .i64 0) (.string ⟨#[]⟩) W0 := by
    rw [hW0]
    refine ⟨?_, ?_⟩
    · rw [Below.heap_alloc (w.alloc O) O w.heap.size (by simp), heap_alloc_new, hO]
    · have := heap_alloc_new (w.alloc O) O
      rw [World.size_alloc] at this
      rw [this, hO]
  have hr0 : Rd R s n W0 := by rw [hW0]; exact (hr.alloc O).alloc O
  have hon0 : Only R w W0 := by rw [hW0]; exact ((Only.refl R w).alloc O).alloc O
  have HW : Hid ((w.alloc (Obj.cells #[.string ⟨#[]⟩, .int .i64 0, .int .i64 0, .int .i64 0, .string ⟨#[]⟩] 71)).alloc (Obj.cells #[.string ⟨#[]⟩, .int .i64 0, .int .i64 0, .int .i64 0, .string ⟨#[]⟩] 71) = W0) := by rw [hW0, hO]; rfl
  clear hW0 hO
  go_enter Tryz.func190, Tryz.ntmps190
  go_wp2_with fail
  rw [HW.out]
  cases h0 : nameS (tl s) n with
  | none =>
    refine (Res.no (nameR R s n _ hr0 hs hn) h0).mono ?_
    rintro e w1 ⟨rfl, o1⟩
    exact ⟨rfl, by rw [show recS (tl s) n = none by simp [recS, h0]]; exact ⟨hon0.trans o1, rfl⟩⟩
  | some x =>
    obtain ⟨nm, m0⟩ := x
    obtain ⟨b0a, b0b⟩ := nameS_bd h0
    rw [tl_length] at b0b
    refine (Res.ok (nameR R s n _ hr0 hs hn) h0).mono ?_
    rintro e w1 ⟨rfl, r1, o1⟩
    have B1 := B0.only o1 hRl
    have on1 := hon0.trans o1
    clear HW B0 hr0 hon0 o1
    obtain ⟨x0, x1, x2, x3, x4, xf, y0, y1, y2, y3, y4, yf⟩ := B1.cells
    go_wp2_with fail
    obtain ⟨W1, hW1⟩ : ∃ W1, W1 = w1.setCell ⟨w.heap.size + 1, 0, none⟩ (.string (mk nm)) := ⟨_, rfl⟩
    rw [← hW1]
    have B1' : Box2 w.heap.size (.string (mk nm)) (.int .i64 0) (.int .i64 0) (.int .i64 0) (.string ⟨#[]⟩) W1 := by rw [hW1]; exact B1.set 0 _ rfl
    have r1' : Rd R s m0 W1 := by rw [hW1]; exact r1.row (by omega) _ _
    have on1' : Only R w W1 := by rw [hW1]; exact on1.boxed (by omega) _ _
    clear hW1 x0 x1 x2 x3 x4 xf y0 y1 y2 y3 y4 yf B1 r1 on1 w1
    cases h1 : numS (tl s) 1 4 m0 with
    | none =>
      refine (Res.no (numberR R s m0 1 4 _ r1' hs) h1).mono ?_
      rintro e w2 ⟨rfl, o2⟩
      exact ⟨rfl, by rw [show recS (tl s) n = none by simp [recS, h0, h1]]; exact ⟨on1'.trans o2, rfl⟩⟩
    | some x =>
    obtain ⟨ty, m1⟩ := x
    obtain ⟨b1a, b1b, b1c, b1d⟩ := numS_bd h1
    rw [tl_length] at b1d
    refine (Res.ok (numberR R s m0 1 4 _ r1' hs) h1).mono ?_
    rintro e w2 ⟨rfl, r2, o2⟩
    have B2 := B1'.only o2 hRl
    have on2 := on1'.trans o2
    clear B1' r1' on1' o2
    obtain ⟨x0, x1, x2, x3, x4, xf, y0, y1, y2, y3, y4, yf⟩ := B2.cells
    go_wp2_with fail
    obtain ⟨W2, hW2⟩ : ∃ W2, W2 = w2.setCell ⟨w.heap.size + 1, 1, none⟩ (.int .i64 ty) := ⟨_, rfl⟩
    rw [← hW2]
    have B2' : Box2 w.heap.size (.string (mk nm)) (.int .i64 ty) (.int .i64 0) (.int .i64 0) (.string ⟨#[]⟩) W2 := by rw [hW2]; exact B2.set 1 _ rfl
    have r2' : Rd R s m1 W2 := by rw [hW2]; exact r2.row (by omega) _ _
    have on2' : Only R w W2 := by rw [hW2]; exact on2.boxed (by omega) _ _
    clear hW2 x0 x1 x2 x3 x4 xf y0 y1 y2 y3 y4 yf B2 r2 on2 w2
    cases h2 : twoS (tl s) m1 with
    | none =>
      refine (Res.no (twoBytesR R s m1 _ r2' hs) h2).mono ?_
      rintro e w3 ⟨rfl, o3⟩
      exact ⟨rfl, by rw [show recS (tl s) n = none by simp [recS, h0, h1, h2]]; exact ⟨on2'.trans o3, rfl⟩⟩
    | some x =>
    obtain ⟨ttl, m2⟩ := x
    obtain ⟨b2a, b2b, b2c, b2d⟩ := twoS_bd h2
    rw [tl_length] at b2d
    refine (Res.ok (twoBytesR R s m1 _ r2' hs) h2).mono ?_
    rintro e w3 ⟨rfl, r3, o3⟩
    have B3 := B2'.only o3 hRl
    have on3 := on2'.trans o3
    clear B2' r2' on2' o3
    obtain ⟨x0, x1, x2, x3, x4, xf, y0, y1, y2, y3, y4, yf⟩ := B3.cells
    go_wp2_with fail
    obtain ⟨W3, hW3⟩ : ∃ W3, W3 = w3.setCell ⟨w.heap.size + 1, 2, none⟩ (.int .i64 ttl) := ⟨_, rfl⟩
    rw [← hW3]
    have B3' : Box2 w.heap.size (.string (mk nm)) (.int .i64 ty) (.int .i64 ttl) (.int .i64 0) (.string ⟨#[]⟩) W3 := by rw [hW3]; exact B3.set 2 _ rfl
    have r3' : Rd R s m2 W3 := by rw [hW3]; exact r3.row (by omega) _ _
    have on3' : Only R w W3 := by rw [hW3]; exact on3.boxed (by omega) _ _
    clear hW3 x0 x1 x2 x3 x4 xf y0 y1 y2 y3 y4 yf B3 r3 on3 w3
    obtain ⟨x0, x1, x2, x3, x4, xf, y0, y1, y2, y3, y4, yf⟩ := B3'.cells
    by_cases htt : 1 ≤ ttl ∧ ttl ≤ 1000
    case neg =>
      have hd : (decide (1 ≤ ttl) && decide (ttl ≤ 1000)) = false := by rw [Bool.and_eq_false_iff]; simp; omega
      refine (between_any _ _ _ _).mono ?_
      rw [hd]
      rintro e w' ⟨rfl, rfl⟩
      go_wp2_with fail
      refine (must_no _).mono ?_
      rintro e w' ⟨rfl, rfl⟩
      exact ⟨rfl, by rw [show recS (tl s) n = none by simp only [recS, h0, h1, h2, Option.bind_some]; rw [if_neg htt]]; exact ⟨on3', rfl⟩⟩
    case pos =>
    have hd : (decide (1 ≤ ttl) && decide (ttl ≤ 1000)) = true := by simp [htt]
    have HS : Hid (recS (tl s) n = saidS (tl s) nm ty ttl m2) := by
      show _ = _
      simp only [recS, h0, h1, h2, Option.bind_some]; rw [if_pos htt]
    refine (between_any _ _ _ _).mono ?_
    rw [hd]
    rintro e w' ⟨rfl, hw'⟩
    subst hw'
    go_wp2_with fail
    refine (must_ok _).mono ?_
    rintro e w' ⟨rfl, hw'⟩
    subst hw'
    clear hd h0 h1 h2 htt
    rcases (show ty = 1 ∨ ty = 2 ∨ ty = 3 ∨ ty = 4 by omega) with rfl | rfl | rfl | rfl
    · have t1 : saidS (tl s) nm 1 ttl m2 = (byteS (tl s) m2).map fun b => (⟨mk nm, 1, ttl, b.1, ⟨#[]⟩⟩, b.2) := by unfold saidS; rw [if_pos rfl]
      have T1 : Hid (saidS (tl s) nm 1 ttl m2 = (byteS (tl s) m2).map fun b => (⟨mk nm, 1, ttl, b.1, ⟨#[]⟩⟩, b.2)) := t1
      clear t1
      go_wp2_with fail
      cases h3 : byteS (tl s) m2 with
      | none =>
        refine (Res.no (oneByteR R s m2 _ r3' hs) h3).mono ?_
        rintro e w4 ⟨rfl, o4⟩
        exact ⟨rfl, by rw [HS.out, T1.out, h3]; exact ⟨on3'.trans o4, rfl⟩⟩
      | some x =>
      obtain ⟨b, m3⟩ := x
      refine (Res.ok (oneByteR R s m2 _ r3' hs) h3).mono ?_
      rintro e w4 ⟨rfl, r4, o4⟩
      have B4 := B3'.only o4 hRl
      have on4 := on3'.trans o4
      clear x0 x1 x2 x3 x4 xf y0 y1 y2 y3 y4 yf B3' r3' on3' o4
      obtain ⟨x0, x1, x2, x3, x4, xf, y0, y1, y2, y3, y4, yf⟩ := B4.cells
      have HF : Hid (recS (tl s) n = some (⟨mk nm, 1, ttl, b, ⟨#[]⟩⟩, m3)) := by show _ = _; rw [HS.out, T1.out, h3]; rfl
      go_wp2
      refine bodyPost_ret (v := recV ⟨mk nm, 1, ttl, b, ⟨#[]⟩⟩) (by simp [results, Tryz.results190, go_sem, recV, y0, y1, y2, y3, y4]) rfl ?_
      rw [HF.out]
      exact ⟨((((((on4.boxed (by omega) _ _).boxed (by omega) _ _).boxed (by omega) _ _).boxed (by omega) _ _).boxed (by omega) _ _).boxed (by omega) _ _), rfl, ((((((r4.row (by omega) _ _).row (by omega) _ _).row (by omega) _ _).row (by omega) _ _).row (by omega) _ _).row (by omega) _ _)⟩
    · have t1 : saidS (tl s) nm 2 ttl m2 = (nameS (tl s) m2).map fun g => (⟨mk nm, 2, ttl, 0, mk g.1⟩, g.2) := by unfold saidS; rw [if_neg (by decide), if_pos (by decide)]
      have T1 : Hid (saidS (tl s) nm 2 ttl m2 = (nameS (tl s) m2).map fun g => (⟨mk nm, 2, ttl, 0, mk g.1⟩, g.2)) := t1
      clear t1
      go_wp2_with fail
      cases h3 : nameS (tl s) m2 with
      | none =>
        refine (Res.no (nameR R s m2 _ r3' hs (by omega)) h3).mono ?_
        rintro e w4 ⟨rfl, o4⟩
        exact ⟨rfl, by rw [HS.out, T1.out, h3]; exact ⟨on3'.trans o4, rfl⟩⟩
      | some x =>
      obtain ⟨g, m3⟩ := x
      refine (Res.ok (nameR R s m2 _ r3' hs (by omega)) h3).mono ?_
      rintro e w4 ⟨rfl, r4, o4⟩
      have B4 := B3'.only o4 hRl
      have on4 := on3'.trans o4
      clear x0 x1 x2 x3 x4 xf y0 y1 y2 y3 y4 yf B3' r3' on3' o4
      obtain ⟨x0, x1, x2, x3, x4, xf, y0, y1, y2, y3, y4, yf⟩ := B4.cells
      have HF : Hid (recS (tl s) n = some (⟨mk nm, 2, ttl, 0, mk g⟩, m3)) := by show _ = _; rw [HS.out, T1.out, h3]; rfl
      go_wp2
      refine bodyPost_ret (v := recV ⟨mk nm, 2, ttl, 0, mk g⟩) (by simp [results, Tryz.results190, go_sem, recV, y0, y1, y2, y3, y4]) rfl ?_
      rw [HF.out]
      exact ⟨((((((on4.boxed (by omega) _ _).boxed (by omega) _ _).boxed (by omega) _ _).boxed (by omega) _ _).boxed (by omega) _ _).boxed (by omega) _ _), rfl, ((((((r4.row (by omega) _ _).row (by omega) _ _).row (by omega) _ _).row (by omega) _ _).row (by omega) _ _).row (by omega) _ _)⟩
    · have t1 : saidS (tl s) nm 3 ttl m2 = (nameS (tl s) m2).map fun g => (⟨mk nm, 3, ttl, 0, mk g.1⟩, g.2) := by unfold saidS; rw [if_neg (by decide), if_pos (by decide)]
      have T1 : Hid (saidS (tl s) nm 3 ttl m2 = (nameS (tl s) m2).map fun g => (⟨mk nm, 3, ttl, 0, mk g.1⟩, g.2)) := t1
      clear t1
      go_wp2_with fail
      cases h3 : nameS (tl s) m2 with
      | none =>
        refine (Res.no (nameR R s m2 _ r3' hs (by omega)) h3).mono ?_
        rintro e w4 ⟨rfl, o4⟩
        exact ⟨rfl, by rw [HS.out, T1.out, h3]; exact ⟨on3'.trans o4, rfl⟩⟩
      | some x =>
      obtain ⟨g, m3⟩ := x
      refine (Res.ok (nameR R s m2 _ r3' hs (by omega)) h3).mono ?_
      rintro e w4 ⟨rfl, r4, o4⟩
      have B4 := B3'.only o4 hRl
      have on4 := on3'.trans o4
      clear x0 x1 x2 x3 x4 xf y0 y1 y2 y3 y4 yf B3' r3' on3' o4
      obtain ⟨x0, x1, x2, x3, x4, xf, y0, y1, y2, y3, y4, yf⟩ := B4.cells
      have HF : Hid (recS (tl s) n = some (⟨mk nm, 3, ttl, 0, mk g⟩, m3)) := by show _ = _; rw [HS.out, T1.out, h3]; rfl
      go_wp2
      refine bodyPost_ret (v := recV ⟨mk nm, 3, ttl, 0, mk g⟩) (by simp [results, Tryz.results190, go_sem, recV, y0, y1, y2, y3, y4]) rfl ?_
      rw [HF.out]
      exact ⟨((((((on4.boxed (by omega) _ _).boxed (by omega) _ _).boxed (by omega) _ _).boxed (by omega) _ _).boxed (by omega) _ _).boxed (by omega) _ _), rfl, ((((((r4.row (by omega) _ _).row (by omega) _ _).row (by omega) _ _).row (by omega) _ _).row (by omega) _ _).row (by omega) _ _)⟩
    · have HF : Hid (recS (tl s) n = some (⟨mk nm, 4, ttl, 0, ⟨#[]⟩⟩, m2)) := by
        show _ = _
        rw [HS.out]; unfold saidS; rw [if_neg (by decide), if_neg (by decide)]
      go_wp2
      refine bodyPost_ret (v := recV ⟨mk nm, 4, ttl, 0, ⟨#[]⟩⟩) (by simp [results, Tryz.results190, go_sem, recV, y0, y1, y2, y3, y4]) rfl ?_
      rw [HF.out]
      exact ⟨(((((on3'.boxed (by omega) _ _).boxed (by omega) _ _).boxed (by omega) _ _).boxed (by omega) _ _).boxed (by omega) _ _), rfl, (((((r3'.row (by omega) _ _).row (by omega) _ _).row (by omega) _ _).row (by omega) _ _).row (by omega) _ _)⟩
end Go.Proofs.YtefdokkadckbbaaGreatDoor
