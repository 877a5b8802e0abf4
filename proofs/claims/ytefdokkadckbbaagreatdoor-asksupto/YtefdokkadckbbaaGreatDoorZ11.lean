/- D1 D2 D3 H6 H7 H8 -/
import Derived.Test.YtefdokkadckbbaaGreatDoorZ06
import Derived.Laws.CopyOwn
import Derived.Deep.MidRow
import Derived.Test.YtefdokkadckbbaaGreatDoorZ10
section
namespace Go.Proofs.YtefdokkadckbbaaGreatDoor
open Go.RowKit
set_option maxRecDepth 100000
theorem wpList_copyK {P : Program} {w : World} {ops : Array Oper} {rest : List Oper} {o : Oper} {a : Act} {Q : Exit → Act → World → Prop} (hgd : o.guard = none) (d s : Operand) (dT sT : TypeId)
  (ho : o.op = .call { callee := .builtin .copy, args := #[d, s], argTypes := #[dT, sT] }) (elem : TypeId) (size : Nat) (hu : P.underlying dT = some (.slice elem)) (hsz : (P.info? elem).map (·.size) = some size)
  (ad : Addr) (dLen dCap sLen sCap : Nat) (g : Nat) (hd : a.eval d = .slice (some ⟨g, 0, none⟩) dLen dCap) (hs : a.eval s = .slice (some ad) sLen sCap)
  (cur : Array Value) (t : TypeId) (hg : w.heap[g]? = some (.cells cur t (0, 0))) (cs : List Value) (hle : sLen ≤ dLen) (hn : cs.length = sLen * size)
  (hsrc : ∀ j v, cs[j]? = some v → w.cell? (ad.add j) = some v) (hfit : cs.length ≤ cur.size) (h1 : ∀ v ∈ cs, v.oneCell' = true) (B : Nat) (w0 : World) (hb : Below B w0 w) (hBg : B ≤ g)
  (h : ∀ w' cur', Hid (w'.heap[g]? = some (.cells cur' t (0, 0))) → Hid (cur' = (splice cur.toList 0 cs).toArray) → Below B w0 w' → wpList P ops Q rest (a.put o.dst (goInt sLen)) w') :
  wpList P ops Q (o :: rest) a w := by
 refine wpList_plain hgd fun K hK => ?_
 have hl := run_loadCells_list (P := P) w ad cs hsrc
 have hst := run_storeCells_at P g 0 t cs 0 cur w hg (by simpa using hfit) h1
 have hmin : Nat.min sLen dLen = sLen := Nat.min_eq_left hle
 have hrun : (Builtin.copy_ #[dT, sT] o.type #[.slice (some ⟨g, 0, none⟩) dLen dCap, .slice (some ad) sLen sCap]).run P w =
   .ok (goInt sLen) (w.setRow g (splice cur.toList 0 cs).toArray) := by
  cases hq : P.info? elem with
  | none => simp [hq] at hsz
  | some i =>
   have hi : i.size = size := by simpa [hq] using hsz
   rw [hn] at hl
   simp only [Nat.add_zero] at hst
   simp [Builtin.copy_, run_underlying hu, Builtin.lenOf, Builtin.firstCells, sizeOf, typeInfo, hq, hi, hmin, hl, hst, splice]
 unfold Oper.wp
 simp [execOp, ho, resolve, invoke, builtin, hd, hs, hrun, Result.andThen]
 exact hK _ _ (h _ _ (setRow_heap w g cur _ t _ hg) rfl (below_setRow hb hBg _))
def rc1 (r : Rec) : List Value := [.string r.name, .int .i64 r.ty, .int .i64 r.ttl, .int .i64 r.num, .string r.target]
def rcells : List Rec → List Value
 | [] => []
 | r :: l => rc1 r ++ rcells l
theorem rcells_length (rs : List Rec) : (rcells rs).length = rs.length * 5 := by
 induction rs with
 | nil => rfl
 | cons r l ih => simp [rcells, rc1, ih]; omega
theorem rcells_append (a b : List Rec) : rcells (a ++ b) = rcells a ++ rcells b := by
 induction a with
 | nil => rfl
 | cons r l ih => simp [rcells, ih]
theorem rc1_one (r : Rec) : ∀ v ∈ rc1 r, v.oneCell' = true := by
 intro v hv; simp [rc1] at hv; rcases hv with rfl | rfl | rfl | rfl | rfl <;> rfl
end Go.Proofs.YtefdokkadckbbaaGreatDoor
end
section
namespace Go.Proofs.YtefdokkadckbbaaGreatDoor
open Go.RowKit
set_option maxRecDepth 100000
def mark (t : Int) : Rec := ⟨⟨#[]⟩, t, 0, 0, ⟨#[]⟩⟩
def Lent (w : World) (v : Value) (rs : List Rec) : Prop :=
 ∃ g, v = .slice (some ⟨g, 0, none⟩) rs.length (rs.length + 2) ∧ g < w.heap.size ∧ ∀ j r, (rs ++ [mark (-7), mark (-8)])[j]? = some r → RecAt w g (0 + j * 5) r
theorem Lent.below {w w' : World} {v : Value} {rs : List Rec} (h : Lent w v rs) (hb : Below w.heap.size w w') : Lent w' v rs := by
 obtain ⟨g, hv, hg, hr⟩ := h
 exact ⟨g, hv, Nat.lt_of_lt_of_le hg hb.size, fun j r hj => (hr j r hj).below hb hg⟩
theorem info91 : (Tryz.prog.info? 71).map (fun i => (i.zero, i.size, i.bytes)) = some (some (.agg #[.string ByteArray.empty, .int .i64 0, .int .i64 0, .int .i64 0, .string ByteArray.empty]), 5, 56) := by kernel_rfl
theorem u39 : Tryz.prog.underlying 25 = some (.slice 71) := by kernel_rfl
theorem owns_block {w0 : World} {base g e size n cap : Nat} {xs : List Value} (h : w0.ownsRow base e size (.slice (some ⟨g, 0, none⟩) n cap) n xs) : ∃ cur, w0.heap[g]? = some (.cells cur e (0, 0)) ∧ cur.size = cap * size := by
 obtain ⟨_, ⟨h, _⟩ | ⟨g', cap', cur, hv, _, hh, _, _, hc, _⟩⟩ := h
 ·cases h
 ·simp only [Value.slice.injEq, Option.some.injEq, Addr.mk.injEq, and_true, true_and] at hv
  obtain ⟨rfl, rfl⟩ := hv
  exact ⟨cur, hh, hc⟩
theorem cell_blk {w : World} {g i : Nat} {cur : Array Value} {t : TypeId} {fr : Nat × Nat} (h : w.heap[g]? = some (.cells cur t fr)) : w.cell? ⟨g, i, none⟩ = cur[i]? := by
 simp [World.cell?, h]
end Go.Proofs.YtefdokkadckbbaaGreatDoor
end
section
namespace Go.Proofs.YtefdokkadckbbaaGreatDoor
open Go.RowKit
set_option maxRecDepth 100000
def Lnt (base : Nat) (W : World) (a a' : Option Addr) (c' : Nat) (rs : List Rec) : Prop :=
 (a = none ∧ a' = none ∧ c' = 0 ∧ rs = []) ∨ ((∃ ad, a = some ad) ∧ ∃ g, a' = some ⟨g, 0, none⟩ ∧ c' = rs.length + 2 ∧ base ≤ g ∧ g < W.heap.size ∧ ∀ j r, (rs ++ [mark (-7), mark (-8)])[j]? = some r → RecAt W g (0 + j * 5) r)
theorem Lnt.below {base : Nat} {W W' : World} {a a' : Option Addr} {c' : Nat} {rs : List Rec} (h : Lnt base W a a' c' rs) (hb : Below W.heap.size W W') : Lnt base W' a a' c' rs := by
 rcases h with h | ⟨h, g, h1, h2, h3, h4, h5⟩
 ·exact .inl h
 ·exact .inr ⟨h, g, h1, h2, h3, Nat.lt_of_lt_of_le h4 hb.size, fun j r hj => (h5 j r hj).below hb h4⟩
theorem RecAt.setCell {w : World} {g o b k : Nat} {r : Rec} (h : RecAt w g o r) (hne : g ≠ b) (v : Value) : RecAt (w.setCell ⟨b, k, none⟩ v) g o r := by
 have hc : ∀ i, (w.setCell ⟨b, k, none⟩ v).cell? ⟨g, i, none⟩ = w.cell? ⟨g, i, none⟩ := fun i => World.cell?_of_block (w := w) (a := ⟨g, i, none⟩) (Below.heap_setCell w ⟨b, k, none⟩ v g hne)
 unfold RecAt at *
 simp only [hc]
 exact h
theorem Lnt.setCell {base : Nat} {W : World} {a a' : Option Addr} {c' : Nat} {rs : List Rec} (h : Lnt base W a a' c' rs) {b : Nat} (hb : b < base) (k : Nat) (v : Value) : Lnt base (W.setCell ⟨b, k, none⟩ v) a a' c' rs := by
 rcases h with h | ⟨h, g, h1, h2, h3, h4, h5⟩
 ·exact .inl h
 ·exact .inr ⟨h, g, h1, h2, h3, by simpa using h4, fun j r hj => (h5 j r hj).setCell (by omega) v⟩
theorem Lnt.lower {base base' : Nat} {W : World} {a a' : Option Addr} {c' : Nat} {rs : List Rec} (h : Lnt base W a a' c' rs) (hb : base' ≤ base) : Lnt base' W a a' c' rs := by
 rcases h with h | ⟨h, g, h1, h2, h3, h4, h5⟩
 ·exact .inl h
 ·exact .inr ⟨h, g, h1, h2, Nat.le_trans hb h3, h4, h5⟩
theorem add_plain (b o j : Nat) : (⟨b, o, none⟩ : Addr).add j = ⟨b, o + j, none⟩ := Addr.add_mid b o j
end Go.Proofs.YtefdokkadckbbaaGreatDoor
end
section
namespace Go.Proofs.YtefdokkadckbbaaGreatDoor
open Go.RowKit
set_option maxRecDepth 100000
def dotJoin (L : List (List UInt8)) : List UInt8 := Lib.join L [46]
set_option maxHeartbeats 400000 in
theorem Join_any (v : Value) (xs : List ByteArray) (w : World) (hv : StrSl w v xs) (hN : xs.length ≤ 5) (h6 : ∀ x ∈ xs.map tl, x.length ≤ 6) :
  Calls Tryz.prog 189 #[v] w fun e w' => e = .returned (.string (mk (dotJoin (xs.map tl)))) ∧ Below w.heap.size w w' := by
 rcases hv with ⟨rfl, rfl⟩ | ⟨g, o, c, rfl, hg, hc, hcell⟩
 ·go_enter Tryz.func189, Tryz.ntmps189
  go_wp2_with (go_at_call 239; refine (Tryz.strings_Join_none none 0 ⟨#[46]⟩ _).mono ?_; rintro e w' ⟨rfl, rfl⟩)
  go_ret
  exact ⟨rfl, Below.refl _ _⟩
 ·have hj : Lib.join (xs.map (·.data.toList)) (ByteArray.mk #[46]).data.toList = dotJoin (xs.map tl) := rfl
  have hlen : (dotJoin (xs.map tl)).length ≤ 1000 := by
   unfold dotJoin
   have : ∀ L : List (List UInt8), (∀ x ∈ L, x.length ≤ 6) → (Lib.join L [46]).length ≤ 7 * L.length := by
    intro L hL
    cases L with
    | nil => simp [Lib.join_nil]
    | cons y r =>
     rw [Lib.join_length]
     have hl : ∀ r : List (List UInt8), (∀ x ∈ r, x.length ≤ 6) → Lib.lens r ≤ 6 * r.length := by
      intro r hr
      induction r with
      | nil => simp [Lib.lens]
      | cons z q ih =>
       have h1 := hr z (by simp)
       have h2 := ih (fun x hx => hr x (by simp [hx]))
       simp [Lib.lens] at h2 ⊢; omega
     have := hl (y :: r) hL
     simp at this ⊢
     omega
   have h := this (xs.map tl) h6
   rw [List.length_map] at h
   omega
  have HC : Hid (∀ j x, xs[j]? = some x → w.cell? ⟨g, o + j, none⟩ = some (.string x)) := hcell
  clear hcell h6
  go_enter Tryz.func189, Tryz.ntmps189
  go_wp2_with (go_at_call 239; refine (Tryz.strings_Join g o c xs ⟨#[46]⟩ _ HC.out hg (by omega) hc (by rw [hj]; omega)).mono ?_; rw [hj]; rintro e w' ⟨rfl, hb⟩)
  go_ret
  exact ⟨rfl, hb⟩
def nameS (t : List UInt8) (n : Nat) : Option (List UInt8 × Nat) := (lblS t n n).bind fun x => if x.1.length ≤ 5 then some (dotJoin x.1, x.2) else none
set_option maxHeartbeats 1000000 in
theorem nameR (R : Nat) (s : ByteArray) (n : Nat) (w : World) (hr : Rd R s n w) (hs : s.size ≤ 1000) (hn : n ≤ 1000) :
  Calls Tryz.prog 140 #[.pointer (some ⟨R, 0, none⟩)] w (Res R s w (fun l => Value.string (mk l)) (nameS (tl s) n)) := by
 cases h0 : lblS (tl s) n n with
 | none =>
  rw [show nameS (tl s) n = none by simp [nameS, h0]]
  go_enter Tryz.func140, Tryz.ntmps140
  go_wp2_with fail
  refine (LRes.no (labelsR s hs n R _ hn hr) h0).mono ?_
  rintro e w1 ⟨rfl, o1⟩
  exact ⟨rfl, o1, rfl⟩
 | some x =>
  obtain ⟨l, m⟩ := x
  obtain ⟨_, hall, _, _⟩ := lblS_len _ _ _ _ _ h0
  by_cases h5 : l.length ≤ 5
  ·rw [show nameS (tl s) n = some (dotJoin l, m) by simp [nameS, h0, h5]]
   have h6 : ∀ x ∈ l, x.length ≤ 6 := fun x hx => by
    have := List.all_eq_true.1 hall x hx
    unfold labOk at this
    rw [Bool.and_eq_true] at this
    have := of_decide_eq_true this.1
    omega
   have H6 : Hid (∀ x ∈ l, x.length ≤ 6) := h6
   clear h6 hall
   go_enter Tryz.func140, Tryz.ntmps140
   go_wp2_with fail
   refine (LRes.ok (labelsR s hs n R _ hn hr) h0).mono ?_
   rintro e w1 ⟨v, ss, rfl, hmap, hsl, r1, o1⟩
   have hl5 : ss.length ≤ 5 := by rw [← List.length_map (f := tl), hmap]; exact h5
   have HM : Hid (ss.map tl = l) := hmap
   clear hmap
   obtain ⟨a, c, rfl, _⟩ := hsl.any
   go_wp2_with fail
   refine (must_yes _ _ (by first | rfl | (simp; omega))).mono ?_
   rintro e w' ⟨rfl, rfl⟩
   go_wp2_with fail
   refine (Join_any _ ss _ hsl hl5 (by rw [HM.out]; exact H6.out)).mono ?_
   rintro e w2 ⟨rfl, hb⟩
   go_wp2
   go_ret
   exact ⟨o1.trans (Only.ofBelow hb), ret_str (by rw [HM.out]), r1.below hb⟩
  ·rw [show nameS (tl s) n = none by simp [nameS, h0, h5]]
   clear hall
   go_enter Tryz.func140, Tryz.ntmps140
   go_wp2_with fail
   refine (LRes.ok (labelsR s hs n R _ hn hr) h0).mono ?_
   rintro e w1 ⟨v, ss, rfl, hmap, hsl, r1, o1⟩
   have hl5 : ¬ ss.length ≤ 5 := by rw [← List.length_map (f := tl), hmap]; exact h5
   clear hmap
   obtain ⟨a, c, rfl, _⟩ := hsl.any
   go_wp2_with fail
   refine (must_not _ _ (by first | rfl | (simp; omega))).mono ?_
   rintro e w' ⟨rfl, rfl⟩
   exact ⟨rfl, o1, rfl⟩
end Go.Proofs.YtefdokkadckbbaaGreatDoor
end
section
namespace Go.Proofs.YtefdokkadckbbaaGreatDoor
open Go.RowKit
set_option maxRecDepth 100000
theorem nameS_bd {t : List UInt8} {n : Nat} {l : List UInt8} {m : Nat} (h : nameS t n = some (l, m)) : n < m ∧ m ≤ t.length := by
 unfold nameS at h
 cases h0 : lblS t n n with
 | none => rw [h0] at h; cases h
 | some x =>
  obtain ⟨l', m'⟩ := x
  obtain ⟨_, _, h3, h4⟩ := lblS_len _ _ _ _ _ h0
  rw [h0, Option.bind_some] at h
  simp only at h
  split at h
  ·simp only [Option.some.injEq, Prod.mk.injEq] at h; omega
  ·cases h
theorem numS_bd {t : List UInt8} {lo hi : Int} {n : Nat} {a : Int} {m : Nat} (h : numS t lo hi n = some (a, m)) : lo ≤ a ∧ a ≤ hi ∧ m = n + 1 ∧ n < t.length := by
 unfold numS at h
 cases h0 : byteS t n with
 | none => rw [h0] at h; cases h
 | some x =>
  obtain ⟨b, k⟩ := x
  have hb := byteS_bd h0
  rw [h0, Option.bind_some] at h
  simp only at h
  split at h
  ·simp only [Option.some.injEq, Prod.mk.injEq] at h; omega
  ·cases h
theorem twoS_bd {t : List UInt8} {n : Nat} {a : Int} {m : Nat} (h : twoS t n = some (a, m)) : 0 ≤ a ∧ a ≤ 65535 ∧ m = n + 2 ∧ m ≤ t.length := by
 unfold twoS at h
 cases h0 : byteS t n with
 | none => rw [h0] at h; cases h
 | some x =>
  obtain ⟨b, k⟩ := x
  have hb := byteS_bd h0
  rw [h0, Option.bind_some] at h
  simp only at h
  cases h1 : byteS t k with
  | none => rw [h1] at h; cases h
  | some y =>
   obtain ⟨c, k'⟩ := y
   have hc := byteS_bd h1
   rw [h1] at h
   simp only [Option.map_some, Option.some.injEq, Prod.mk.injEq] at h
   omega
def saidS (t : List UInt8) (nm : List UInt8) (ty ttl : Int) (n : Nat) : Option (Rec × Nat) :=
 if ty = 1 then (byteS t n).map fun b => (⟨mk nm, ty, ttl, b.1, ⟨#[]⟩⟩, b.2)
 else if ty = 2 ∨ ty = 3 then (nameS t n).map fun g => (⟨mk nm, ty, ttl, 0, mk g.1⟩, g.2)
 else some (⟨mk nm, ty, ttl, 0, ⟨#[]⟩⟩, n)
def recS (t : List UInt8) (n : Nat) : Option (Rec × Nat) :=
 (nameS t n).bind fun a => (numS t 1 4 a.2).bind fun ty => (twoS t ty.2).bind fun ttl => if 1 ≤ ttl.1 ∧ ttl.1 ≤ 1000 then saidS t a.1 ty.1 ttl.1 ttl.2 else none
def recV (r : Rec) : Value := .agg #[.string r.name, .int .i64 r.ty, .int .i64 r.ttl, .int .i64 r.num, .string r.target]
def Box2 (b : Nat) (v0 v1 v2 v3 v4 : Value) (W : World) : Prop :=
 W.heap[b]? = some (.cells #[.string ⟨#[]⟩, .int .i64 0, .int .i64 0, .int .i64 0, .string ⟨#[]⟩] 71 (0, 0)) ∧ W.heap[b + 1]? = some (.cells #[v0, v1, v2, v3, v4] 71 (0, 0))
theorem Box2.only {b R : Nat} {v0 v1 v2 v3 v4 : Value} {W W' : World} (h : Box2 b v0 v1 v2 v3 v4 W) (ho : Only R W W') (hR : R < b) : Box2 b v0 v1 v2 v3 v4 W' := by
 refine ⟨?_, ?_⟩
 ·rw [ho.block b (Array.getElem?_eq_some_iff.1 h.1).1 (by omega)]; exact h.1
 ·rw [ho.block (b + 1) (Array.getElem?_eq_some_iff.1 h.2).1 (by omega)]; exact h.2
theorem Box2.cells {b : Nat} {v0 v1 v2 v3 v4 : Value} {W : World} (h : Box2 b v0 v1 v2 v3 v4 W) :
  W.cell? ⟨b + 1, 0, none⟩ = some v0 ∧ W.cell? ⟨b + 1, 1, none⟩ = some v1 ∧ W.cell? ⟨b + 1, 2, none⟩ = some v2 ∧ W.cell? ⟨b + 1, 3, none⟩ = some v3 ∧ W.cell? ⟨b + 1, 4, none⟩ = some v4 ∧ (∀ k, W.frozen? ⟨b + 1, k, none⟩ = false) ∧
  W.cell? ⟨b, 0, none⟩ = some (.string ⟨#[]⟩) ∧ W.cell? ⟨b, 1, none⟩ = some (.int .i64 0) ∧ W.cell? ⟨b, 2, none⟩ = some (.int .i64 0) ∧ W.cell? ⟨b, 3, none⟩ = some (.int .i64 0) ∧ W.cell? ⟨b, 4, none⟩ = some (.string ⟨#[]⟩) ∧ (∀ k, W.frozen? ⟨b, k, none⟩ = false) := by
 refine ⟨?_, ?_, ?_, ?_, ?_, fun k => frozen_of_row W (b + 1) k _ 71 h.2, ?_, ?_, ?_, ?_, ?_, fun k => frozen_of_row W b k _ 71 h.1⟩
 all_goals first | (rw [cellB h.2]; rfl) | (rw [cellB h.1]; rfl)
theorem Box2.set {b : Nat} {v0 v1 v2 v3 v4 : Value} {W : World} (h : Box2 b v0 v1 v2 v3 v4 W) (k : Nat) (v : Value) {u0 u1 u2 u3 u4 : Value} (he : (#[v0, v1, v2, v3, v4] : Array Value).setIfInBounds k v = #[u0, u1, u2, u3, u4]) : Box2 b u0 u1 u2 u3 u4 (W.setCell ⟨b + 1, k, none⟩ v) := by
 refine ⟨?_, ?_⟩
 ·rw [Below.heap_setCell W ⟨b + 1, k, none⟩ v b (by simp)]; exact h.1
 ·rw [heap_setCell_same W (b + 1) k _ 71 v h.2, he]
theorem Only.boxed {R : Nat} {a w : World} (h : Only R a w) {g : Nat} (hg : a.heap.size ≤ g) (k : Nat) (v : Value) : Only R a (w.setCell ⟨g, k, none⟩ v) := h.row hg k v
set_option maxHeartbeats 4000000 in
theorem recordR (R : Nat) (s : ByteArray) (n : Nat) (w : World) (hr : Rd R s n w) (hs : s.size ≤ 1000) (hn : n ≤ 1000) :
  Calls Tryz.prog 190 #[.pointer (some ⟨R, 0, none⟩)] w (Res R s w recV (recS (tl s) n)) := by
 have hRl := hr.lt
 obtain ⟨O, hO⟩ : ∃ O, O = Obj.cells #[.string ⟨#[]⟩, .int .i64 0, .int .i64 0, .int .i64 0, .string ⟨#[]⟩] 71 := ⟨_, rfl⟩
 obtain ⟨W0, hW0⟩ : ∃ W0, W0 = (w.alloc O).alloc O := ⟨_, rfl⟩
 have B0 : Box2 w.heap.size (.string ⟨#[]⟩) (.int .i64 0) (.int .i64 0) (.int .i64 0) (.string ⟨#[]⟩) W0 := by
  rw [hW0]
  refine ⟨?_, ?_⟩
  ·rw [Below.heap_alloc (w.alloc O) O w.heap.size (by simp), heap_alloc_new, hO]
  ·have := heap_alloc_new (w.alloc O) O
   rw [World.size_alloc] at this
   rw [this, hO]
 have hr0 : Rd R s n W0 := by rw [hW0]; exact (hr.alloc O).alloc O
 have hon0 : Only R w W0 := by rw [hW0]; exact ((Only.refl R w).alloc O).alloc O
 have HW : Hid ((w.alloc (Obj.cells #[.string ⟨#[]⟩, .int .i64 0, .int .i64 0, .int .i64 0, .string ⟨#[]⟩] 71)).alloc (Obj.cells #[.string ⟨#[]⟩, .int .i64 0, .int .i64 0, .int .i64 0, .string ⟨#[]⟩] 71) = W0) := by rw [hW0, hO]; rfl
 clear hW0 hO
 go_enter Tryz.func190, Tryz.ntmps190
 go_wp2_with fail
 rw [HW.out]
 cases h0 : nameS (tl s) n with
 | none =>
  refine (Res.no (nameR R s n _ hr0 hs hn) h0).mono ?_
  rintro e w1 ⟨rfl, o1⟩
  exact ⟨rfl, by rw [show recS (tl s) n = none by simp [recS, h0]]; exact ⟨hon0.trans o1, rfl⟩⟩
 | some x =>
  obtain ⟨nm, m0⟩ := x
  obtain ⟨b0a, b0b⟩ := nameS_bd h0
  rw [tl_length] at b0b
  refine (Res.ok (nameR R s n _ hr0 hs hn) h0).mono ?_
  rintro e w1 ⟨rfl, r1, o1⟩
  have B1 := B0.only o1 hRl
  have on1 := hon0.trans o1
  clear HW B0 hr0 hon0 o1
  obtain ⟨x0, x1, x2, x3, x4, xf, y0, y1, y2, y3, y4, yf⟩ := B1.cells
  go_wp2_with fail
  obtain ⟨W1, hW1⟩ : ∃ W1, W1 = w1.setCell ⟨w.heap.size + 1, 0, none⟩ (.string (mk nm)) := ⟨_, rfl⟩
  rw [← hW1]
  have B1' : Box2 w.heap.size (.string (mk nm)) (.int .i64 0) (.int .i64 0) (.int .i64 0) (.string ⟨#[]⟩) W1 := by rw [hW1]; exact B1.set 0 _ rfl
  have r1' : Rd R s m0 W1 := by rw [hW1]; exact r1.row (by omega) _ _
  have on1' : Only R w W1 := by rw [hW1]; exact on1.boxed (by omega) _ _
  clear hW1 x0 x1 x2 x3 x4 xf y0 y1 y2 y3 y4 yf B1 r1 on1 w1
  cases h1 : numS (tl s) 1 4 m0 with
  | none =>
   refine (Res.no (numberR R s m0 1 4 _ r1' hs) h1).mono ?_
   rintro e w2 ⟨rfl, o2⟩
   exact ⟨rfl, by rw [show recS (tl s) n = none by simp [recS, h0, h1]]; exact ⟨on1'.trans o2, rfl⟩⟩
  | some x =>
  obtain ⟨ty, m1⟩ := x
  obtain ⟨b1a, b1b, b1c, b1d⟩ := numS_bd h1
  rw [tl_length] at b1d
  refine (Res.ok (numberR R s m0 1 4 _ r1' hs) h1).mono ?_
  rintro e w2 ⟨rfl, r2, o2⟩
  have B2 := B1'.only o2 hRl
  have on2 := on1'.trans o2
  clear B1' r1' on1' o2
  obtain ⟨x0, x1, x2, x3, x4, xf, y0, y1, y2, y3, y4, yf⟩ := B2.cells
  go_wp2_with fail
  obtain ⟨W2, hW2⟩ : ∃ W2, W2 = w2.setCell ⟨w.heap.size + 1, 1, none⟩ (.int .i64 ty) := ⟨_, rfl⟩
  rw [← hW2]
  have B2' : Box2 w.heap.size (.string (mk nm)) (.int .i64 ty) (.int .i64 0) (.int .i64 0) (.string ⟨#[]⟩) W2 := by rw [hW2]; exact B2.set 1 _ rfl
  have r2' : Rd R s m1 W2 := by rw [hW2]; exact r2.row (by omega) _ _
  have on2' : Only R w W2 := by rw [hW2]; exact on2.boxed (by omega) _ _
  clear hW2 x0 x1 x2 x3 x4 xf y0 y1 y2 y3 y4 yf B2 r2 on2 w2
  cases h2 : twoS (tl s) m1 with
  | none =>
   refine (Res.no (twoBytesR R s m1 _ r2' hs) h2).mono ?_
   rintro e w3 ⟨rfl, o3⟩
   exact ⟨rfl, by rw [show recS (tl s) n = none by simp [recS, h0, h1, h2]]; exact ⟨on2'.trans o3, rfl⟩⟩
  | some x =>
  obtain ⟨ttl, m2⟩ := x
  obtain ⟨b2a, b2b, b2c, b2d⟩ := twoS_bd h2
  rw [tl_length] at b2d
  refine (Res.ok (twoBytesR R s m1 _ r2' hs) h2).mono ?_
  rintro e w3 ⟨rfl, r3, o3⟩
  have B3 := B2'.only o3 hRl
  have on3 := on2'.trans o3
  clear B2' r2' on2' o3
  obtain ⟨x0, x1, x2, x3, x4, xf, y0, y1, y2, y3, y4, yf⟩ := B3.cells
  go_wp2_with fail
  obtain ⟨W3, hW3⟩ : ∃ W3, W3 = w3.setCell ⟨w.heap.size + 1, 2, none⟩ (.int .i64 ttl) := ⟨_, rfl⟩
  rw [← hW3]
  have B3' : Box2 w.heap.size (.string (mk nm)) (.int .i64 ty) (.int .i64 ttl) (.int .i64 0) (.string ⟨#[]⟩) W3 := by rw [hW3]; exact B3.set 2 _ rfl
  have r3' : Rd R s m2 W3 := by rw [hW3]; exact r3.row (by omega) _ _
  have on3' : Only R w W3 := by rw [hW3]; exact on3.boxed (by omega) _ _
  clear hW3 x0 x1 x2 x3 x4 xf y0 y1 y2 y3 y4 yf B3 r3 on3 w3
  obtain ⟨x0, x1, x2, x3, x4, xf, y0, y1, y2, y3, y4, yf⟩ := B3'.cells
  by_cases htt : 1 ≤ ttl ∧ ttl ≤ 1000
  case neg =>
   have hd : (decide (1 ≤ ttl) && decide (ttl ≤ 1000)) = false := by rw [Bool.and_eq_false_iff]; simp; omega
   refine (between_any _ _ _ _).mono ?_
   rw [hd]
   rintro e w' ⟨rfl, rfl⟩
   go_wp2_with fail
   refine (must_no _).mono ?_
   rintro e w' ⟨rfl, rfl⟩
   exact ⟨rfl, by rw [show recS (tl s) n = none by simp only [recS, h0, h1, h2, Option.bind_some]; rw [if_neg htt]]; exact ⟨on3', rfl⟩⟩
  case pos =>
  have hd : (decide (1 ≤ ttl) && decide (ttl ≤ 1000)) = true := by simp [htt]
  have HS : Hid (recS (tl s) n = saidS (tl s) nm ty ttl m2) := by
   show _ = _
   simp only [recS, h0, h1, h2, Option.bind_some]; rw [if_pos htt]
  refine (between_any _ _ _ _).mono ?_
  rw [hd]
  rintro e w' ⟨rfl, hw'⟩
  subst hw'
  go_wp2_with fail
  refine (must_ok _).mono ?_
  rintro e w' ⟨rfl, hw'⟩
  subst hw'
  clear hd h0 h1 h2 htt
  rcases (show ty = 1 ∨ ty = 2 ∨ ty = 3 ∨ ty = 4 by omega) with rfl | rfl | rfl | rfl
  ·have t1 : saidS (tl s) nm 1 ttl m2 = (byteS (tl s) m2).map fun b => (⟨mk nm, 1, ttl, b.1, ⟨#[]⟩⟩, b.2) := by unfold saidS; rw [if_pos rfl]
   have T1 : Hid (saidS (tl s) nm 1 ttl m2 = (byteS (tl s) m2).map fun b => (⟨mk nm, 1, ttl, b.1, ⟨#[]⟩⟩, b.2)) := t1
   clear t1
   go_wp2_with fail
   cases h3 : byteS (tl s) m2 with
   | none =>
    refine (Res.no (oneByteR R s m2 _ r3' hs) h3).mono ?_
    rintro e w4 ⟨rfl, o4⟩
    exact ⟨rfl, by rw [HS.out, T1.out, h3]; exact ⟨on3'.trans o4, rfl⟩⟩
   | some x =>
   obtain ⟨b, m3⟩ := x
   refine (Res.ok (oneByteR R s m2 _ r3' hs) h3).mono ?_
   rintro e w4 ⟨rfl, r4, o4⟩
   have B4 := B3'.only o4 hRl
   have on4 := on3'.trans o4
   clear x0 x1 x2 x3 x4 xf y0 y1 y2 y3 y4 yf B3' r3' on3' o4
   obtain ⟨x0, x1, x2, x3, x4, xf, y0, y1, y2, y3, y4, yf⟩ := B4.cells
   have HF : Hid (recS (tl s) n = some (⟨mk nm, 1, ttl, b, ⟨#[]⟩⟩, m3)) := by show _ = _; rw [HS.out, T1.out, h3]; rfl
   go_wp2
   refine bodyPost_ret (v := recV ⟨mk nm, 1, ttl, b, ⟨#[]⟩⟩) (by simp [results, Tryz.results190, go_sem, recV, y0, y1, y2, y3, y4]) rfl ?_
   rw [HF.out]
   exact ⟨((((((on4.boxed (by omega) _ _).boxed (by omega) _ _).boxed (by omega) _ _).boxed (by omega) _ _).boxed (by omega) _ _).boxed (by omega) _ _), rfl, ((((((r4.row (by omega) _ _).row (by omega) _ _).row (by omega) _ _).row (by omega) _ _).row (by omega) _ _).row (by omega) _ _)⟩
  ·have t1 : saidS (tl s) nm 2 ttl m2 = (nameS (tl s) m2).map fun g => (⟨mk nm, 2, ttl, 0, mk g.1⟩, g.2) := by unfold saidS; rw [if_neg (by decide), if_pos (by decide)]
   have T1 : Hid (saidS (tl s) nm 2 ttl m2 = (nameS (tl s) m2).map fun g => (⟨mk nm, 2, ttl, 0, mk g.1⟩, g.2)) := t1
   clear t1
   go_wp2_with fail
   cases h3 : nameS (tl s) m2 with
   | none =>
    refine (Res.no (nameR R s m2 _ r3' hs (by omega)) h3).mono ?_
    rintro e w4 ⟨rfl, o4⟩
    exact ⟨rfl, by rw [HS.out, T1.out, h3]; exact ⟨on3'.trans o4, rfl⟩⟩
   | some x =>
   obtain ⟨g, m3⟩ := x
   refine (Res.ok (nameR R s m2 _ r3' hs (by omega)) h3).mono ?_
   rintro e w4 ⟨rfl, r4, o4⟩
   have B4 := B3'.only o4 hRl
   have on4 := on3'.trans o4
   clear x0 x1 x2 x3 x4 xf y0 y1 y2 y3 y4 yf B3' r3' on3' o4
   obtain ⟨x0, x1, x2, x3, x4, xf, y0, y1, y2, y3, y4, yf⟩ := B4.cells
   have HF : Hid (recS (tl s) n = some (⟨mk nm, 2, ttl, 0, mk g⟩, m3)) := by show _ = _; rw [HS.out, T1.out, h3]; rfl
   go_wp2
   refine bodyPost_ret (v := recV ⟨mk nm, 2, ttl, 0, mk g⟩) (by simp [results, Tryz.results190, go_sem, recV, y0, y1, y2, y3, y4]) rfl ?_
   rw [HF.out]
   exact ⟨((((((on4.boxed (by omega) _ _).boxed (by omega) _ _).boxed (by omega) _ _).boxed (by omega) _ _).boxed (by omega) _ _).boxed (by omega) _ _), rfl, ((((((r4.row (by omega) _ _).row (by omega) _ _).row (by omega) _ _).row (by omega) _ _).row (by omega) _ _).row (by omega) _ _)⟩
  ·have t1 : saidS (tl s) nm 3 ttl m2 = (nameS (tl s) m2).map fun g => (⟨mk nm, 3, ttl, 0, mk g.1⟩, g.2) := by unfold saidS; rw [if_neg (by decide), if_pos (by decide)]
   have T1 : Hid (saidS (tl s) nm 3 ttl m2 = (nameS (tl s) m2).map fun g => (⟨mk nm, 3, ttl, 0, mk g.1⟩, g.2)) := t1
   clear t1
   go_wp2_with fail
   cases h3 : nameS (tl s) m2 with
   | none =>
    refine (Res.no (nameR R s m2 _ r3' hs (by omega)) h3).mono ?_
    rintro e w4 ⟨rfl, o4⟩
    exact ⟨rfl, by rw [HS.out, T1.out, h3]; exact ⟨on3'.trans o4, rfl⟩⟩
   | some x =>
   obtain ⟨g, m3⟩ := x
   refine (Res.ok (nameR R s m2 _ r3' hs (by omega)) h3).mono ?_
   rintro e w4 ⟨rfl, r4, o4⟩
   have B4 := B3'.only o4 hRl
   have on4 := on3'.trans o4
   clear x0 x1 x2 x3 x4 xf y0 y1 y2 y3 y4 yf B3' r3' on3' o4
   obtain ⟨x0, x1, x2, x3, x4, xf, y0, y1, y2, y3, y4, yf⟩ := B4.cells
   have HF : Hid (recS (tl s) n = some (⟨mk nm, 3, ttl, 0, mk g⟩, m3)) := by show _ = _; rw [HS.out, T1.out, h3]; rfl
   go_wp2
   refine bodyPost_ret (v := recV ⟨mk nm, 3, ttl, 0, mk g⟩) (by simp [results, Tryz.results190, go_sem, recV, y0, y1, y2, y3, y4]) rfl ?_
   rw [HF.out]
   exact ⟨((((((on4.boxed (by omega) _ _).boxed (by omega) _ _).boxed (by omega) _ _).boxed (by omega) _ _).boxed (by omega) _ _).boxed (by omega) _ _), rfl, ((((((r4.row (by omega) _ _).row (by omega) _ _).row (by omega) _ _).row (by omega) _ _).row (by omega) _ _).row (by omega) _ _)⟩
  ·have HF : Hid (recS (tl s) n = some (⟨mk nm, 4, ttl, 0, ⟨#[]⟩⟩, m2)) := by
    show _ = _
    rw [HS.out]; unfold saidS; rw [if_neg (by decide), if_neg (by decide)]
   go_wp2
   refine bodyPost_ret (v := recV ⟨mk nm, 4, ttl, 0, ⟨#[]⟩⟩) (by simp [results, Tryz.results190, go_sem, recV, y0, y1, y2, y3, y4]) rfl ?_
   rw [HF.out]
   exact ⟨(((((on3'.boxed (by omega) _ _).boxed (by omega) _ _).boxed (by omega) _ _).boxed (by omega) _ _).boxed (by omega) _ _), rfl, (((((r3'.row (by omega) _ _).row (by omega) _ _).row (by omega) _ _).row (by omega) _ _).row (by omega) _ _)⟩
end Go.Proofs.YtefdokkadckbbaaGreatDoor
end
section
namespace Go.Proofs.YtefdokkadckbbaaGreatDoor
open Go.RowKit
set_option maxRecDepth 100000
def recsS (t : List UInt8) : Nat → Nat → Option (List Rec × Nat)
 | 0, n => some ([], n)
 | k + 1, n => (recS t n).bind fun r => (recsS t k r.2).map fun l => (r.1 :: l.1, l.2)
theorem saidS_bd {t nm : List UInt8} {ty ttl : Int} {n : Nat} {r : Rec} {m : Nat} (h : saidS t nm ty ttl n = some (r, m)) (hn : n ≤ t.length) : n ≤ m ∧ m ≤ t.length := by
 unfold saidS at h
 split at h
 ·cases h0 : byteS t n with
  | none => rw [h0] at h; cases h
  | some x =>
   obtain ⟨b, k⟩ := x
   have := byteS_bd h0
   rw [h0] at h
   simp only [Option.map_some, Option.some.injEq, Prod.mk.injEq] at h; omega
 ·split at h
  ·cases h0 : nameS t n with
   | none => rw [h0] at h; cases h
   | some x =>
    obtain ⟨b, k⟩ := x
    have := nameS_bd h0
    rw [h0] at h
    simp only [Option.map_some, Option.some.injEq, Prod.mk.injEq] at h; omega
  ·simp only [Option.some.injEq, Prod.mk.injEq] at h; omega
theorem recS_bd {t : List UInt8} {n : Nat} {r : Rec} {m : Nat} (h : recS t n = some (r, m)) : n < m ∧ m ≤ t.length := by
 unfold recS at h
 cases h0 : nameS t n with
 | none => rw [h0] at h; cases h
 | some x =>
  obtain ⟨nm, m0⟩ := x
  have b0 := nameS_bd h0
  rw [h0, Option.bind_some] at h
  simp only at h
  cases h1 : numS t 1 4 m0 with
  | none => rw [h1] at h; cases h
  | some x =>
   obtain ⟨ty, m1⟩ := x
   have b1 := numS_bd h1
   rw [h1, Option.bind_some] at h
   simp only at h
   cases h2 : twoS t m1 with
   | none => rw [h2] at h; cases h
   | some x =>
    obtain ⟨ttl, m2⟩ := x
    have b2 := twoS_bd h2
    rw [h2, Option.bind_some] at h
    simp only at h
    split at h
    ·have := saidS_bd h (by omega); omega
    ·cases h
def KRes (R : Nat) (s : ByteArray) (w : World) (o : Option (List Rec × Nat)) (e : Ending) (w' : World) : Prop :=
 Only R w w' ∧ (match o with | some x => ∃ v, e = .returned v ∧ w'.ownsRow w.heap.size 71 5 v x.1.length (rcells x.1) ∧ Rd R s x.2 w' | none => e = .panicked gaveUp)
theorem KRes.ok {R : Nat} {s : ByteArray} {w : World} {o : Option (List Rec × Nat)} {f : FuncId} {args : Array Value} (h : Calls Tryz.prog f args w (KRes R s w o)) {l : List Rec} {n : Nat} (ho : o = some (l, n)) :
  Calls Tryz.prog f args w fun e w' => ∃ v, e = .returned v ∧ w'.ownsRow w.heap.size 71 5 v l.length (rcells l) ∧ Rd R s n w' ∧ Only R w w' := by
 subst ho; exact h.mono fun e w' ⟨h1, v, h2, h3, h4⟩ => ⟨v, h2, h3, h4, h1⟩
theorem KRes.no {R : Nat} {s : ByteArray} {w : World} {o : Option (List Rec × Nat)} {f : FuncId} {args : Array Value} (h : Calls Tryz.prog f args w (KRes R s w o)) (ho : o = none) :
  Calls Tryz.prog f args w fun e w' => e = .panicked gaveUp ∧ Only R w w' := by
 subst ho; exact h.mono fun e w' ⟨h1, h2⟩ => ⟨h2, h1⟩
theorem own_ge5 {w : World} {base : Nat} {v : Value} {n : Nat} {xs : List Value} (h : w.ownsRow base 71 5 v n xs) : ∀ k, v.ownBlock = some k → base ≤ k := fun k hk => (h.lt k hk).1
theorem kl_step {R : Nat} {s : ByteArray} {w wr w1 w2 : World} {rs : List Rec} {r : Rec} {v v' : Value} {o : Obj} {m : Nat} (hRw : R < w.heap.size)
  (hown : wr.ownsRow w.heap.size 71 5 v rs.length (rcells rs)) (hon : Only R w wr) (o1 : Only R wr w1) (r1 : Rd R s m w1)
  (hown' : w2.ownsRow w.heap.size 71 5 v' (rs.length + 1) (rcells rs ++ rc1 r)) (hg : (w1.alloc o).grownBy w2 v.ownBlock) :
  w2.ownsRow w.heap.size 71 5 v' (rs ++ [r]).length (rcells (rs ++ [r])) ∧ Rd R s m w2 ∧ Only R w w2 := by
 have hge := own_ge5 hown
 refine ⟨?_, (r1.alloc o).grown hg (fun e => by have := hge R e; omega), ((hon.trans o1).alloc o).grown hg hge⟩
 rw [rcells_append]
 simpa [rcells] using hown'
set_option maxHeartbeats 2000000 in
theorem listR (R : Nat) (s : ByteArray) (n k : Nat) (w : World) (hr : Rd R s n w) (hs : s.size ≤ 1000) (hn : n ≤ s.size) (hk : k ≤ 10) :
  Calls Tryz.prog 141 #[.pointer (some ⟨R, 0, none⟩), .int .i64 (k : Int)] w (KRes R s w (recsS (tl s) k n)) := by
 by_cases k0 : k = 0
 ·subst k0
  go_enter Tryz.func141, Tryz.ntmps141
  go_wp2
  go_ret
  exact ⟨Only.refl _ _, _, rfl, World.ownsRow_nil _ _ _ _, hr⟩
 obtain ⟨i0, hi, hz0, hz1, hz2⟩ := info_parts info91
 have hRl := hr.lt
 have hk0 : ((k : Int) == 0) = false := by simp; omega
 go_enter Tryz.func141, Tryz.ntmps141
 go_wp2_with (at_make; refine wpList_make_own _ rfl _ _ 25 rfl w.heap.size 71 i0 (.agg #[.string ByteArray.empty, .int .i64 0, .int .i64 0, .int .i64 0, .string ByteArray.empty]) 5 u39 hi hz0 hz1 _ _ _ k rfl rfl rfl ?b2 ?b3 (Nat.le_refl _) ?_)
 case b2 => rw [hz2]; omega
 case b3 => unfold maxLen; omega
 intro w0 hown0 hgrow0
 have hB0 : Below w.heap.size w w0 := (Below.refl _ _).grown hgrow0 (Nat.le_refl _) (fun k h => by cases h)
 have hr0 := hr.below hB0
 clear hgrow0
 go_wp2
 go_loopw [5, 11] (fun v i wr => ∃ (j m : Nat) (rs : List Rec), j ≤ k ∧ rs.length = j ∧ m ≤ s.size ∧ i = .int .i64 j ∧ wr.ownsRow w.heap.size 71 5 v rs.length (rcells rs) ∧ Rd R s m wr ∧ Only R w wr ∧
   recsS (tl s) k n = (recsS (tl s) (k - j) m).map fun x => (rs ++ x.1, x.2)) (fun _ i _ => k - (intOf i).toNat)
 case atStart => exact ⟨0, n, [], Nat.zero_le _, rfl, hn, rfl, hown0, hr0, Only.ofBelow hB0, by simp⟩
 case round =>
  obtain ⟨j, m, rs, hj, hjr, hm, rfl, hown, hrd, hon, hsp⟩ := hrel
  have HSP : Hid (recsS (tl s) k n = (recsS (tl s) (k - j) m).map fun x => (rs ++ x.1, x.2)) := hsp
  have HJ : Hid (rs.length = j) := hjr
  have hrl : rs.length ≤ 10 := by omega
  clear hsp hjr
  by_cases hlt : j < k
  ·cases h0 : recS (tl s) m with
   | none =>
    have HN : Hid (recsS (tl s) k n = none) := by
     show _ = _
     rw [HSP.out, show k - j = (k - j - 1) + 1 by omega]
     simp [recsS, h0]
    go_wp2_with fail
    refine (Res.no (recordR R s m _ hrd hs (by omega)) h0).mono ?_
    rintro e w1 ⟨rfl, o1⟩
    exact ⟨rfl, by rw [HN.out]; exact ⟨hon.trans o1, rfl⟩⟩
   | some x =>
    obtain ⟨r, m1⟩ := x
    obtain ⟨bm, bm1⟩ := recS_bd h0
    rw [tl_length] at bm1
    have HNX : Hid (recsS (tl s) k n = (recsS (tl s) (k - (j + 1)) m1).map fun x => ((rs ++ [r]) ++ x.1, x.2)) := by
     show _ = _
     rw [HSP.out, show k - j = (k - (j + 1)) + 1 by omega]
     simp only [recsS, h0, Option.bind_some]
     cases recsS (tl s) (k - (j + 1)) m1 <;> simp
    go_wp2_with fail
    refine (Res.ok (recordR R s m _ hrd hs (by omega)) h0).mono ?_
    rintro e w1 ⟨rfl, r1, o1⟩
    have hown1 := hown.only o1 hRl
    obtain ⟨c0, c1, c2, c3, c4⟩ := r
    unfold recV
    go_wp2_with (first
      | (at_builtin; refine wpList_append_own _ rfl _ _ 25 rfl w.heap.size 71 i0 (.agg #[.string ByteArray.empty, .int .i64 0, .int .i64 0, .int .i64 0, .string ByteArray.empty]) 5 56 u39 hi hz0 hz1 hz2 rfl (by decide) _ _ _ rfl (hown1.alloc _) ⟨w1.heap.size, 0, none⟩ 1 1 (rc1 ⟨c0, c1, c2, c3, c4⟩) rfl rfl ?d1 ?d2 ?d3 ?d4 ?d5 ?_))
    case d1 =>
     intro j u hj
     have e : (⟨w1.heap.size, 0, none⟩ : Addr).add j = ⟨w1.heap.size, j, none⟩ := by unfold Addr.add; split <;> simp_all
     rw [e]
     simpa [rc1] using hj
    case d2 => exact rc1_one _
    case d3 => unfold maxLen; omega
    case d4 => omega
    case d5 => have := hon.size; have := o1.size; simp; omega
    intro v' w3 hown' hgrow _
    have R3 := kl_step hRl hown hon o1 r1 hown' hgrow
    clear hown' hgrow hown hown1
    go_wp2
    go_roundw
    case rel => exact ⟨j + 1, m1, rs ++ [⟨c0, c1, c2, c3, c4⟩], hlt, by have := HJ.out; simp; omega, bm1, by go_num, R3.1, R3.2.1, R3.2.2, HNX.out⟩
    case measure => simp [intOf]; omega
  ·have hk' : k - j = 0 := by omega
   have HY : Hid (recsS (tl s) k n = some (rs, m)) := by show _ = _; rw [HSP.out, hk']; simp [recsS]
   clear hk'
   go_wp2
   go_ret
   rw [HY.out]
   exact ⟨hon, _, rfl, hown, hrd⟩
end Go.Proofs.YtefdokkadckbbaaGreatDoor
end
