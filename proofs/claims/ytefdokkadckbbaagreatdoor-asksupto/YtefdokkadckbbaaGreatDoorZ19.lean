/- I3 -/
import Derived.Test.YtefdokkadckbbaaGreatDoorZ17
namespace Go.Proofs.YtefdokkadckbbaaGreatDoor
open Go.RowKit
set_option maxRecDepth 100000
def fill5 (b : Nat) (v0 v1 v2 v3 v4 : Value) (W : World) : World := (((((W.setCell ⟨b, 0, none⟩ v0).setCell ⟨b, 1, none⟩ v1).setCell ⟨b, 2, none⟩ v2).setCell ⟨b, 3, none⟩ v3).setCell ⟨b, 4, none⟩ v4)
theorem fill5_heap {b : Nat} {u0 u1 u2 u3 u4 v0 v1 v2 v3 v4 : Value} {W : World} (h : W.heap[b]? = some (.cells #[u0, u1, u2, u3, u4] 71 (0, 0))) : (fill5 b v0 v1 v2 v3 v4 W).heap[b]? = some (.cells #[v0, v1, v2, v3, v4] 71 (0, 0)) := by
 unfold fill5
 have e1 : (W.setCell ⟨b, 0, none⟩ v0).heap[b]? = some (.cells #[v0, u1, u2, u3, u4] 71 (0, 0)) := by rw [heap_setCell_same _ b 0 _ 71 v0 h]; rfl
 have e2 : ((W.setCell ⟨b, 0, none⟩ v0).setCell ⟨b, 1, none⟩ v1).heap[b]? = some (.cells #[v0, v1, u2, u3, u4] 71 (0, 0)) := by rw [heap_setCell_same _ b 1 _ 71 v1 e1]; rfl
 have e3 : (((W.setCell ⟨b, 0, none⟩ v0).setCell ⟨b, 1, none⟩ v1).setCell ⟨b, 2, none⟩ v2).heap[b]? = some (.cells #[v0, v1, v2, u3, u4] 71 (0, 0)) := by rw [heap_setCell_same _ b 2 _ 71 v2 e2]; rfl
 have e4 : ((((W.setCell ⟨b, 0, none⟩ v0).setCell ⟨b, 1, none⟩ v1).setCell ⟨b, 2, none⟩ v2).setCell ⟨b, 3, none⟩ v3).heap[b]? = some (.cells #[v0, v1, v2, v3, u4] 71 (0, 0)) := by rw [heap_setCell_same _ b 3 _ 71 v3 e3]; rfl
 have e5 : (((((W.setCell ⟨b, 0, none⟩ v0).setCell ⟨b, 1, none⟩ v1).setCell ⟨b, 2, none⟩ v2).setCell ⟨b, 3, none⟩ v3).setCell ⟨b, 4, none⟩ v4).heap[b]? = some (.cells #[v0, v1, v2, v3, v4] 71 (0, 0)) := by rw [heap_setCell_same _ b 4 _ 71 v4 e4]; rfl
 rw [e5]
theorem fill5_size {b : Nat} {v0 v1 v2 v3 v4 : Value} {W : World} : (fill5 b v0 v1 v2 v3 v4 W).heap.size = W.heap.size := by simp [fill5]
theorem fill5_cells {b : Nat} {v0 v1 v2 v3 v4 : Value} {W : World} (h : W.heap[b]? = some (.cells #[v0, v1, v2, v3, v4] 71 (0, 0))) :
  (W.cell? ⟨b, 0, none⟩ = some v0 ∧ W.cell? ⟨b, 1, none⟩ = some v1 ∧ W.cell? ⟨b, 2, none⟩ = some v2 ∧ W.cell? ⟨b, 3, none⟩ = some v3 ∧ W.cell? ⟨b, 4, none⟩ = some v4) ∧ ∀ k, W.frozen? ⟨b, k, none⟩ = false := by
 refine ⟨⟨?_, ?_, ?_, ?_, ?_⟩, fun k => frozen_of_row W b k _ 71 h⟩
 all_goals (rw [cellB h]; rfl)
theorem below_fill5 {B b : Nat} {v0 v1 v2 v3 v4 : Value} {w W : World} (h : Below B w W) (hb : B ≤ b) : Below B w (fill5 b v0 v1 v2 v3 v4 W) :=
 (((((h.setCell hb _).setCell hb _).setCell hb _).setCell hb _).setCell hb _)
theorem heap_below {b : Nat} {o : Obj} {w w' : World} (h : w.heap[b]? = some o) (hb : Below w.heap.size w w') : w'.heap[b]? = some o := by
 rw [hb.block b (Array.getElem?_eq_some_iff.1 h).1]; exact h
theorem heap_alloc_old {b : Nat} {o : Obj} {w : World} (h : w.heap[b]? = some o) (p : Obj) : (w.alloc p).heap[b]? = some o := heap_below h (keepA w p)
theorem keepB {W0 wA wB : World} (h : Below W0.heap.size W0 wA) (hb : Below wA.heap.size wA wB) : Below W0.heap.size W0 wB := h.trans (hb.mono h.size)
theorem cutS_bd {t : List UInt8} {n : Nat} {l : List (List UInt8)} {m : Nat} (h : cutS t n = some (l, m)) : n < m ∧ m ≤ t.length ∧ l.length ≤ 5 ∧ l.all labOk = true := by
 unfold cutS at h
 cases h0 : lblS t n n with
 | none => rw [h0] at h; cases h
 | some x =>
  obtain ⟨l', m'⟩ := x
  have := lblS_len _ _ _ _ _ h0
  rw [h0, Option.bind_some] at h
  simp only at h
  by_cases h5 : l'.length ≤ 5
  ·rw [if_pos h5] at h
   simp only [Option.some.injEq, Prod.mk.injEq] at h
   obtain ⟨rfl, rfl⟩ := h
   exact ⟨this.2.2.1, this.2.2.2, h5, this.2.1⟩
  ·rw [if_neg h5] at h; cases h
theorem all_six {l : List (List UInt8)} (h : l.all labOk = true) : ∀ x ∈ l, x.length ≤ 6 := fun x hx => by
 have := List.all_eq_true.1 h x hx
 unfold labOk at this
 rw [Bool.and_eq_true] at this
 have := of_decide_eq_true this.1
 omega
def ckS (r : Rec) (m : Nat) : Option (Rec × Nat) := if recOk r then some (r, m) else none
def rr2 (t nm : List UInt8) (ty ttl : Int) (n : Nat) : Option (Rec × Nat) :=
 if ty = 1 then (byteS t n).bind fun b => ckS ⟨mk nm, ty, ttl, b.1, ⟨#[]⟩⟩ b.2
 else if ty = 2 ∨ ty = 3 then (cutS t n).bind fun g => ckS ⟨mk nm, ty, ttl, 0, mk (dotJoin g.1)⟩ g.2
 else ckS ⟨mk nm, ty, ttl, 0, ⟨#[]⟩⟩ n
def rrS (t : List UInt8) (n : Nat) : Option (Rec × Nat) :=
 (cutS t n).bind fun a => (byteS t a.2).bind fun ty => (twoS t ty.2).bind fun ttl => rr2 t (dotJoin a.1) ty.1 ttl.1 ttl.2
def RRes (w : World) (o : Option (Rec × Nat)) (e : Ending) (w' : World) : Prop :=
 Below w.heap.size w w' ∧ (match o with
  | some x => e = .returned (.tuple #[recV x.1, .int .i64 (x.2 : Int)])
  | none => e = .returned (.tuple #[recV ⟨⟨#[]⟩, 0, 0, 0, ⟨#[]⟩⟩, .int .i64 (-1)]))
theorem three_out {s : ByteArray} {n : Nat} {l : List (List UInt8)} {m : Nat} (h : cutS (tl s) n = some (l, m)) (hm : s.size < m + 3) : rrS (tl s) n = none := by
 unfold rrS
 rw [h, Option.bind_some]
 by_cases h0 : m < s.size
 ·rw [byteS_at h0, Option.bind_some]
  unfold twoS
  by_cases h1 : m + 1 < s.size
  ·rw [byteS_at h1, Option.bind_some, byteS_out (by omega)]; rfl
  ·rw [byteS_out h1]; rfl
 ·rw [byteS_out h0]; rfl
theorem three_in {s : ByteArray} {n : Nat} {l : List (List UInt8)} {m : Nat} (h : cutS (tl s) n = some (l, m)) (h0 : m < s.size) (h1 : m + 1 < s.size) (h2 : m + 2 < s.size) :
  rrS (tl s) n = rr2 (tl s) (dotJoin l) (s[m].toNat : Int) ((s[m + 1].toNat : Int) + 256 * (s[m + 2].toNat : Int)) (m + 3) := by
 unfold rrS
 rw [h, Option.bind_some]
 simp only
 rw [byteS_at h0, Option.bind_some]
 unfold twoS
 simp only
 rw [byteS_at h1, Option.bind_some]
 simp only
 rw [byteS_at h2]
 simp only [Option.map_some, Option.bind_some]
 rw [Int.mul_comm]
set_option maxHeartbeats 4000000 in
theorem record_ref (s : ByteArray) (n : Nat) (w : World) (hs : s.size ≤ 1000) (hn : n ≤ s.size) : Calls Tryz.prog 162 #[.string s, .int .i64 (n : Int)] w (RRes w (rrS (tl s) n)) := by
 obtain ⟨W0, hW0⟩ : ∃ W0, W0 = w.alloc (Obj.cells #[.string ⟨#[]⟩, .int .i64 0, .int .i64 0, .int .i64 0, .string ⟨#[]⟩] 71) := ⟨_, rfl⟩
 have hs0 : w.heap.size + 1 ≤ W0.heap.size := by rw [hW0]; simp
 have hr0 : W0.heap[w.heap.size]? = some (.cells #[.string ⟨#[]⟩, .int .i64 0, .int .i64 0, .int .i64 0, .string ⟨#[]⟩] 71 (0, 0)) := by rw [hW0, heap_alloc_new]
 have hB0 : Below w.heap.size w W0 := by rw [hW0]; exact keepA _ _
 have HW : Hid (w.alloc (Obj.cells #[.string ⟨#[]⟩, .int .i64 0, .int .i64 0, .int .i64 0, .string ⟨#[]⟩] 71) = W0) := hW0.symm
 clear hW0
 go_enter Tryz.func162, Tryz.ntmps162
 go_wp2_with fail
 rw [HW.out]
 clear HW
 cases hc : cutS (tl s) n with
 | none =>
  refine (CRes.no (labels_ref s hs n W0 hn) hc).mono ?_
  rintro e w1 ⟨rfl, hb1⟩
  have hr1 := heap_below hr0 hb1
  have hB1 := hB0.trans (hb1.mono hB0.size)
  have hs1 := hb1.size
  obtain ⟨⟨x0, x1, x2, x3, x4⟩, xf⟩ := fill5_cells hr1
  have HN : Hid (rrS (tl s) n = none) := by show _ = _; unfold rrS; rw [hc]; rfl
  have hne : w.heap.size ≠ w1.heap.size := by omega
  have hlt : w.heap.size < w1.heap.size := by omega
  go_wp2
  obtain ⟨Y, hY⟩ : ∃ Y, Y = (fill5 w.heap.size (.string ⟨#[]⟩) (.int .i64 0) (.int .i64 0) (.int .i64 0) (.string ⟨#[]⟩) w1).alloc (.cells #[.string ⟨#[]⟩, .int .i64 0, .int .i64 0, .int .i64 0, .string ⟨#[]⟩] 71) := ⟨_, rfl⟩
  have hYb : Y.heap[w.heap.size]? = some (.cells #[.string ⟨#[]⟩, .int .i64 0, .int .i64 0, .int .i64 0, .string ⟨#[]⟩] 71 (0, 0)) := by rw [hY]; exact heap_alloc_old (fill5_heap hr1) _
  have hYB : Below w.heap.size w Y := by rw [hY]; exact (below_fill5 hB1 (Nat.le_refl _)).alloc (by rw [fill5_size]; omega) _
  unfold fill5 at hY
  rw [← hY]
  clear hY x0 x1 x2 x3 x4 xf
  obtain ⟨⟨x0, x1, x2, x3, x4⟩, xf⟩ := fill5_cells hYb
  refine bodyPost_ret (v := .tuple #[recV ⟨⟨#[]⟩, 0, 0, 0, ⟨#[]⟩⟩, .int .i64 (-1)]) (by simp [results, Tryz.results162, go_sem, recV, x0, x1, x2, x3, x4]) rfl ?_
  rw [HN.out]
  exact ⟨hYB, rfl⟩
 | some x =>
  obtain ⟨l, m⟩ := x
  obtain ⟨hnm, hml, hl5, hall⟩ := cutS_bd hc
  rw [tl_length] at hml
  refine (CRes.ok (labels_ref s hs n W0 hn) hc).mono ?_
  rintro e w1 ⟨v, ss, rfl, hmap, hsl, hb1⟩
  have hr1 := heap_below hr0 hb1
  have hB1 := hB0.trans (hb1.mono hB0.size)
  have hs1 := hb1.size
  have hne : w.heap.size ≠ w1.heap.size := by omega
  have hlt : w.heap.size < w1.heap.size := by omega
  have HM : Hid (ss.map tl = l) := hmap
  have H6 : Hid (∀ x ∈ l, x.length ≤ 6) := all_six hall
  have hss : ss.length ≤ 5 := by rw [← List.length_map (f := tl), hmap]; exact hl5
  clear hmap hall hr0 hB0 hb1
  obtain ⟨va, vc, rfl, hany⟩ := hsl.any
  clear hany
  by_cases hm3 : s.size < m + 3
  ·obtain ⟨⟨x0, x1, x2, x3, x4⟩, xf⟩ := fill5_cells hr1
   have HN : Hid (rrS (tl s) n = none) := three_out hc hm3
   go_wp2
   obtain ⟨Y, hY⟩ : ∃ Y, Y = (fill5 w.heap.size (.string ⟨#[]⟩) (.int .i64 0) (.int .i64 0) (.int .i64 0) (.string ⟨#[]⟩) w1).alloc (.cells #[.string ⟨#[]⟩, .int .i64 0, .int .i64 0, .int .i64 0, .string ⟨#[]⟩] 71) := ⟨_, rfl⟩
   have hYb : Y.heap[w.heap.size]? = some (.cells #[.string ⟨#[]⟩, .int .i64 0, .int .i64 0, .int .i64 0, .string ⟨#[]⟩] 71 (0, 0)) := by rw [hY]; exact heap_alloc_old (fill5_heap hr1) _
   have hYB : Below w.heap.size w Y := by rw [hY]; exact (below_fill5 hB1 (Nat.le_refl _)).alloc (by rw [fill5_size]; omega) _
   unfold fill5 at hY
   rw [← hY]
   clear hY x0 x1 x2 x3 x4 xf
   obtain ⟨⟨x0, x1, x2, x3, x4⟩, xf⟩ := fill5_cells hYb
   refine bodyPost_ret (v := .tuple #[recV ⟨⟨#[]⟩, 0, 0, 0, ⟨#[]⟩⟩, .int .i64 (-1)]) (by simp [results, Tryz.results162, go_sem, recV, x0, x1, x2, x3, x4]) rfl ?_
   rw [HN.out]
   exact ⟨hYB, rfl⟩
  ·have hm0 : m < s.size := by omega
   have hm1 : m + 1 < s.size := by omega
   have hm2 : m + 2 < s.size := by omega
   obtain ⟨ty, hty⟩ : ∃ ty : Int, ty = (s[m].toNat : Int) := ⟨_, rfl⟩
   obtain ⟨t1, ht1⟩ : ∃ t1 : Int, t1 = (s[m + 1].toNat : Int) := ⟨_, rfl⟩
   obtain ⟨t2, ht2⟩ : ∃ t2 : Int, t2 = (s[m + 2].toNat : Int) := ⟨_, rfl⟩
   have HR : Hid (rrS (tl s) n = rr2 (tl s) (dotJoin l) ty (t1 + 256 * t2) (m + 3)) := by show _ = _; rw [hty, ht1, ht2]; exact three_in hc hm0 hm1 hm2
   have ty0 : 0 ≤ ty ∧ ty ≤ 255 := by have := s[m].toNat_lt; omega
   have t10 : 0 ≤ t1 ∧ t1 ≤ 255 := by have := s[m + 1].toNat_lt; omega
   have t20 : 0 ≤ t2 ∧ t2 ≤ 255 := by have := s[m + 2].toNat_lt; omega
   obtain ⟨ty0a, ty0b⟩ := ty0
   obtain ⟨t10a, t10b⟩ := t10
   obtain ⟨t20a, t20b⟩ := t20
   obtain ⟨W1, hW1⟩ : ∃ W1, W1 = w1.alloc (Obj.cells #[.string ⟨#[]⟩, .int .i64 0, .int .i64 0, .int .i64 0, .string ⟨#[]⟩] 71) := ⟨_, rfl⟩
   have hsW : W1.heap.size = w1.heap.size + 1 := by rw [hW1]; simp
   have hr2 : W1.heap[w.heap.size]? = some (.cells #[.string ⟨#[]⟩, .int .i64 0, .int .i64 0, .int .i64 0, .string ⟨#[]⟩] 71 (0, 0)) := by rw [hW1]; exact heap_alloc_old hr1 _
   have hq2 : W1.heap[w1.heap.size]? = some (.cells #[.string ⟨#[]⟩, .int .i64 0, .int .i64 0, .int .i64 0, .string ⟨#[]⟩] 71 (0, 0)) := by rw [hW1, heap_alloc_new]
   have hB2 : Below w.heap.size w W1 := by rw [hW1]; exact hB1.alloc hB1.size _
   have hsl2 : StrSl W1 (.slice va ss.length vc) ss := by rw [hW1]; exact hsl.below (keepA _ _)
   have HW : Hid (w1.alloc (Obj.cells #[.string ⟨#[]⟩, .int .i64 0, .int .i64 0, .int .i64 0, .string ⟨#[]⟩] 71) = W1) := hW1.symm
   have HsW : Hid (W1.heap.size = w1.heap.size + 1) := hsW
   clear hW1 hr1 hB1 hsl hc hsW
   have i0 : (0 : Int) ≤ (m : Int) := by omega
   have i1 : (m : Int) < (s.size : Int) := by omega
   have i2 : (m : Int) + 1 < (s.size : Int) := by omega
   have i3 : (m : Int) + 2 < (s.size : Int) := by omega
   have i4 : (0 : Int) ≤ (m : Int) + 1 := by omega
   have i5 : (0 : Int) ≤ (m : Int) + 2 := by omega
   have hBd : Below W1.heap.size W1 W1.drew := (Below.refl _ _).drew
   go_wp2
   rw [HW.out]
   clear HW
   have hx0 : ∀ w, (Instr.index 9 (.string s) (.int .i64 (m : Int))).run Tryz.prog w = .ok (.int .u8 ty) w := fun w => by rw [run_index_string w 9 s .i64 m u9, dif_pos ⟨by omega, by omega⟩, hty]; rfl
   have hx1 : ∀ w, (Instr.index 9 (.string s) (.int .i64 ((m : Int) + 1))).run Tryz.prog w = .ok (.int .u8 t1) w := fun w => by rw [run_index_string w 9 s .i64 _ u9, dif_pos ⟨by omega, by omega⟩, ht1]; rfl
   have hx2 : ∀ w, (Instr.index 9 (.string s) (.int .i64 ((m : Int) + 2))).run Tryz.prog w = .ok (.int .u8 t2) w := fun w => by rw [run_index_string w 9 s .i64 _ u9, dif_pos ⟨by omega, by omega⟩, ht2]; rfl
   clear hty ht1 ht2
   refine wp_region_noPanic ?_
   refine wp_region_held_drew (S := fun w' => Below W1.heap.size W1 w') (by kernel_rfl) hBd (fun hHeld => ?_)
   refine tkI (i := 0) (v := (.slice va ss.length vc)) rfl hHeld ?_
   refine tkI (i := 2) (v := (.string s)) rfl hHeld ?_
   refine tkI (i := 3) (v := (.int .i64 (m : Int))) rfl hHeld ?_
   refine tkI (i := 4) (v := (.int .u8 ty)) rfl hHeld ?_
   refine tkI (i := 5) (v := (.int .i64 ty)) rfl hHeld ?_
   refine tkI (i := 6) (v := (.string s)) rfl hHeld ?_
   refine tkI (i := 7) (v := (.int .i64 (m : Int))) rfl hHeld ?_
   refine tkI (i := 8) (v := (.int .i64 ((m : Int) + 1))) rfl hHeld ?_
   refine tkI (i := 9) (v := (.int .u8 t1)) rfl hHeld ?_
   refine tkI (i := 10) (v := (.int .i64 t1)) rfl hHeld ?_
   refine tkI (i := 11) (v := (.string s)) rfl hHeld ?_
   refine tkI (i := 12) (v := (.int .i64 (m : Int))) rfl hHeld ?_
   refine tkI (i := 13) (v := (.int .i64 ((m : Int) + 2))) rfl hHeld ?_
   refine tkI (i := 14) (v := (.int .u8 t2)) rfl hHeld ?_
   refine tkI (i := 15) (v := (.int .i64 t2)) rfl hHeld ?_
   refine tkI (i := 16) (v := (.int .i64 (256 * t2))) rfl hHeld ?_
   refine tkI (i := 17) (v := (.int .i64 (t1 + 256 * t2))) rfl hHeld ?_
   have hsd : StrSl W1.drew (.slice va ss.length vc) ss := hsl2
   refine wpAnyH_ready (rs := [1, 19]) (by kernel_rfl) (by simp) ?_
   refine AllReadyH.cons rfl (fun K hK => ?wA) (AllReadyH.cons rfl (fun K hK => ?wB) AllReadyH.nil)
   case' wA =>
    go_simp
    refine (joined_any _ ss _ hsd hss (by rw [HM.out]; exact H6.out)).mono ?_
    rw [HM.out]
    rintro e w2 ⟨rfl, hb2⟩
    have hB3 := keepB hBd hb2
    refine hK.out _ _ hB3 (fun hHeld => ?_)
    clear hK K
    refine tkS (i := 18) (v := .agg #[.string (mk (dotJoin l)), .int .i64 ty, .int .i64 (t1 + 256 * t2), .int .i64 0, .string ⟨#[]⟩]) rfl hHeld ?_
    refine wpAnyH_ready (rs := [19]) (by kernel_rfl) (by simp) ?_
    refine AllReadyH.cons rfl (fun K hK => ?_) AllReadyH.nil
    go_simp
    refine hK.out _ _ (keepB hB3 (keepA _ _)) (fun hHeld => ?_)
    clear hK K
    refine wpAnyH_ready (rs := [20]) (by kernel_rfl) (by simp) ?_
    refine AllReadyH.cons rfl (fun K hK => ?_) AllReadyH.nil
    go_simp
    have hB4 := keepB hB3 (keepA w2 (.cells #[.string (mk (dotJoin l)), .int .i64 ty, .int .i64 (t1 + 256 * t2), .int .i64 0, .string ⟨#[]⟩] 71))
    refine hK.out _ _ hB4 (fun hHeld => ?_)
    clear hK K hHeld
    refine wpAnyH_done (by kernel_rfl) ?_ _
    refine NoPanic.normal ?_
    obtain ⟨p, hp⟩ : ∃ p, p = w2.heap.size := ⟨_, rfl⟩
    obtain ⟨X, hX⟩ : ∃ X, X = w2.alloc (.cells #[.string (mk (dotJoin l)), .int .i64 ty, .int .i64 (t1 + 256 * t2), .int .i64 0, .string ⟨#[]⟩] 71) := ⟨_, rfl⟩
    rw [← hp, ← hX]
    have hpX : X.heap[p]? = some (.cells #[.string (mk (dotJoin l)), .int .i64 ty, .int .i64 (t1 + 256 * t2), .int .i64 0, .string ⟨#[]⟩] 71 (0, 0)) := by rw [hp, hX, heap_alloc_new]
    have hpl : W1.heap.size ≤ p := by rw [hp]; exact hB3.size
    rw [← hX] at hB4
    clear hp hX hB3 hb2 hsd hBd hx0 hx1 hx2
   case' wB =>
    go_simp
    have hB3 := keepB hBd (keepA W1.drew (.cells #[.string ⟨#[]⟩, .int .i64 0, .int .i64 0, .int .i64 0, .string ⟨#[]⟩] 71))
    refine hK.out _ _ hB3 (fun hHeld => ?_)
    clear hK K
    refine wpAnyH_ready (rs := [1]) (by kernel_rfl) (by simp) ?_
    refine AllReadyH.cons rfl (fun K hK => ?_) AllReadyH.nil
    go_simp
    refine (joined_any _ ss _ (hsd.below (keepA _ _)) hss (by rw [HM.out]; exact H6.out)).mono ?_
    rw [HM.out]
    rintro e w2 ⟨rfl, hb2⟩
    have hB3' := keepB hB3 hb2
    refine hK.out _ _ hB3' (fun hHeld => ?_)
    clear hK K
    refine tkS (i := 18) (v := .agg #[.string (mk (dotJoin l)), .int .i64 ty, .int .i64 (t1 + 256 * t2), .int .i64 0, .string ⟨#[]⟩]) rfl hHeld ?_
    have hp2 : w2.heap[W1.heap.size]? = some (.cells #[.string ⟨#[]⟩, .int .i64 0, .int .i64 0, .int .i64 0, .string ⟨#[]⟩] 71 (0, 0)) := heap_below (heap_alloc_new W1.drew _) hb2
    obtain ⟨⟨z0, z1, z2, z3, z4⟩, zf⟩ := fill5_cells hp2
    refine wpAnyH_ready (rs := [20]) (by kernel_rfl) (by simp) ?_
    refine AllReadyH.cons rfl (fun K hK => ?_) AllReadyH.nil
    go_simp
    have hB4 : Below W1.heap.size W1 (fill5 W1.heap.size (.string (mk (dotJoin l))) (.int .i64 ty) (.int .i64 (t1 + 256 * t2)) (.int .i64 0) (.string ⟨#[]⟩) w2) := below_fill5 hB3' (Nat.le_refl _)
    refine hK.out _ _ hB4 (fun hHeld => ?_)
    clear hK K hHeld
    refine wpAnyH_done (by kernel_rfl) ?_ _
    refine NoPanic.normal ?_
    obtain ⟨p, hp⟩ : ∃ p, p = W1.heap.size := ⟨_, rfl⟩
    obtain ⟨X, hX⟩ : ∃ X, X = fill5 W1.heap.size (.string (mk (dotJoin l))) (.int .i64 ty) (.int .i64 (t1 + 256 * t2)) (.int .i64 0) (.string ⟨#[]⟩) w2 := ⟨_, rfl⟩
    rw [← hX] at hB4
    have hpX : X.heap[p]? = some (.cells #[.string (mk (dotJoin l)), .int .i64 ty, .int .i64 (t1 + 256 * t2), .int .i64 0, .string ⟨#[]⟩] 71 (0, 0)) := by rw [hp, hX]; exact fill5_heap hp2
    have hpl : W1.heap.size ≤ p := by rw [hp]; exact Nat.le_refl _
    unfold fill5 at hX
    rw [← hX, ← hp]
    clear hp hX hB3 hB3' hb2 hsd hBd hx0 hx1 hx2 hp2 z0 z1 z2 z3 z4 zf
   all_goals
    have hp4 := hpX
    have hz4 := heap_below hr2 hB4
    have hq4 := heap_below hq2 hB4
    have hBX := hB2.trans (hB4.mono hB2.size)
    have hpb : p ≠ w.heap.size := by have := HsW.out; omega
    have hpb' : w.heap.size ≠ p := by have := HsW.out; omega
    have hpq : p ≠ w1.heap.size := by have := HsW.out; omega
    have hez : (⟨#[]⟩ : ByteArray).size ≤ 1048576 := by decide
    have hnz : (mk (dotJoin l)).size ≤ 1048576 := by
     rw [mk_size]
     have := dotJoin_le l H6.out
     omega
    clear hr2 hq2 hB2 hpX hm0 hm1 hm2 i0 i1 i2 i3 i4 i5
    obtain ⟨⟨x0, x1, x2, x3, x4⟩, xf⟩ := fill5_cells hp4
    obtain ⟨⟨y0, y1, y2, y3, y4⟩, yf⟩ := fill5_cells hq4
    obtain ⟨⟨z0, z1, z2, z3, z4⟩, zf⟩ := fill5_cells hz4
    by_cases c1 : ty = 1
    ·subst c1
     by_cases h4 : m + 3 < s.size
     ·obtain ⟨nu, hnu⟩ : ∃ nu : Int, nu = (s[m + 3].toNat : Int) := ⟨_, rfl⟩
      have HRR : Hid (rrS (tl s) n = ckS ⟨(mk (dotJoin l)), 1, (t1 + 256 * t2), nu, ⟨#[]⟩⟩ (m + 3 + 1)) := by
       show _ = _
       rw [HR.out, hnu]; unfold rr2; rw [if_pos rfl, byteS_at h4]; rfl
      obtain ⟨X6, hX6⟩ : ∃ X1, X1 = X.setCell ⟨p, 3, none⟩ (.int .i64 nu) := ⟨_, rfl⟩
      have hp6 : X6.heap[p]? = some (.cells #[.string (mk (dotJoin l)), .int .i64 1, .int .i64 (t1 + 256 * t2), .int .i64 nu, .string ⟨#[]⟩] 71 (0, 0)) := by rw [hX6, heap_setCell_same _ p 3 _ 71 _ hp4]; rfl
      have hz6 : X6.heap[w.heap.size]? = some (.cells #[.string ⟨#[]⟩, .int .i64 0, .int .i64 0, .int .i64 0, .string ⟨#[]⟩] 71 (0, 0)) := by rw [hX6, Below.heap_setCell X ⟨p, 3, none⟩ _ _ hpb']; exact hz4
      have hq6 : X6.heap[w1.heap.size]? = some (.cells #[.string ⟨#[]⟩, .int .i64 0, .int .i64 0, .int .i64 0, .string ⟨#[]⟩] 71 (0, 0)) := by rw [hX6, Below.heap_setCell X ⟨p, 3, none⟩ _ _ (Ne.symm hpq)]; exact hq4
      have hB6 : Below w.heap.size w X6 := by rw [hX6]; exact hBX.setCell (by have := HsW.out; show w.heap.size ≤ p; omega) _
      have HX6 : Hid (X.setCell ⟨p, 3, none⟩ (.int .i64 nu) = X6) := hX6.symm
      clear hX6
      have hn8 := s[m + 3].toNat_lt
      go_wp2_with fail
      rw [← hnu, HX6.out]
      clear hnu HX6 hn8
      refine (Well_any ⟨(mk (dotJoin l)), 1, (t1 + 256 * t2), nu, ⟨#[]⟩⟩ _ hnz hez).mono ?_
      rintro e w5 ⟨rfl, hb5⟩
      have hp5 := heap_below hp6 hb5
      have hq5 := heap_below hq6 hb5
      have hz5 := heap_below hz6 hb5
      have hB5 := hB6.trans (hb5.mono hB6.size)
      clear x0 x1 x2 x3 x4 xf y0 y1 y2 y3 y4 yf z0 z1 z2 z3 z4 zf
      obtain ⟨⟨x0, x1, x2, x3, x4⟩, xf⟩ := fill5_cells hp5
      obtain ⟨⟨y0, y1, y2, y3, y4⟩, yf⟩ := fill5_cells hq5
      obtain ⟨⟨z0, z1, z2, z3, z4⟩, zf⟩ := fill5_cells hz5
      cases hok : recOk ⟨(mk (dotJoin l)), 1, (t1 + 256 * t2), nu, ⟨#[]⟩⟩ with
      | true =>
       have HF : Hid (rrS (tl s) n = some (⟨(mk (dotJoin l)), 1, (t1 + 256 * t2), nu, ⟨#[]⟩⟩, m + 3 + 1)) := by show _ = _; rw [HRR.out]; unfold ckS; rw [hok]; rfl
       go_wp2
       obtain ⟨Y, hY⟩ : ∃ Y, Y = fill5 w.heap.size (.string (mk (dotJoin l))) (.int .i64 1) (.int .i64 (t1 + 256 * t2)) (.int .i64 nu) (.string ⟨#[]⟩) w5 := ⟨_, rfl⟩
       have hYb : Y.heap[w.heap.size]? = some (.cells #[.string (mk (dotJoin l)), .int .i64 1, .int .i64 (t1 + 256 * t2), .int .i64 nu, .string ⟨#[]⟩] 71 (0, 0)) := by rw [hY]; exact fill5_heap hz5
       have hYB : Below w.heap.size w Y := by rw [hY]; exact below_fill5 hB5 (Nat.le_refl _)
       unfold fill5 at hY
       rw [← hY]
       clear hY x0 x1 x2 x3 x4 xf y0 y1 y2 y3 y4 yf z0 z1 z2 z3 z4 zf
       obtain ⟨⟨x0, x1, x2, x3, x4⟩, xf⟩ := fill5_cells hYb
       refine bodyPost_ret (v := .tuple #[recV ⟨(mk (dotJoin l)), 1, (t1 + 256 * t2), nu, ⟨#[]⟩⟩, .int .i64 (m + 3 + 1 : Nat)]) (by simp [results, Tryz.results162, go_sem, recV, x0, x1, x2, x3, x4]) rfl ?_
       rw [HF.out]
       exact ⟨hYB, rfl⟩
      | false =>
       have HF : Hid (rrS (tl s) n = none) := by show _ = _; rw [HRR.out]; unfold ckS; rw [hok]; rfl
       go_wp2
       obtain ⟨Y, hY⟩ : ∃ Y, Y = fill5 w.heap.size (.string ⟨#[]⟩) (.int .i64 0) (.int .i64 0) (.int .i64 0) (.string ⟨#[]⟩) w5 := ⟨_, rfl⟩
       have hYb : Y.heap[w.heap.size]? = some (.cells #[.string ⟨#[]⟩, .int .i64 0, .int .i64 0, .int .i64 0, .string ⟨#[]⟩] 71 (0, 0)) := by rw [hY]; exact fill5_heap hz5
       have hYB : Below w.heap.size w Y := by rw [hY]; exact below_fill5 hB5 (Nat.le_refl _)
       unfold fill5 at hY
       rw [← hY]
       clear hY x0 x1 x2 x3 x4 xf y0 y1 y2 y3 y4 yf z0 z1 z2 z3 z4 zf
       obtain ⟨⟨x0, x1, x2, x3, x4⟩, xf⟩ := fill5_cells hYb
       refine bodyPost_ret (v := .tuple #[recV ⟨⟨#[]⟩, 0, 0, 0, ⟨#[]⟩⟩, .int .i64 (-1)]) (by simp [results, Tryz.results162, go_sem, recV, x0, x1, x2, x3, x4]) rfl ?_
       rw [HF.out]
       exact ⟨hYB, rfl⟩
     ·have HN : Hid (rrS (tl s) n = none) := by
       show _ = _
       rw [HR.out]; unfold rr2; rw [if_pos rfl, byteS_out h4]; rfl
      go_wp2
      obtain ⟨Y, hY⟩ : ∃ Y, Y = fill5 w.heap.size (.string ⟨#[]⟩) (.int .i64 0) (.int .i64 0) (.int .i64 0) (.string ⟨#[]⟩) X := ⟨_, rfl⟩
      have hYb : Y.heap[w.heap.size]? = some (.cells #[.string ⟨#[]⟩, .int .i64 0, .int .i64 0, .int .i64 0, .string ⟨#[]⟩] 71 (0, 0)) := by rw [hY]; exact fill5_heap hz4
      have hYB : Below w.heap.size w Y := by rw [hY]; exact below_fill5 hBX (Nat.le_refl _)
      unfold fill5 at hY
      rw [← hY]
      clear hY x0 x1 x2 x3 x4 xf y0 y1 y2 y3 y4 yf z0 z1 z2 z3 z4 zf
      obtain ⟨⟨x0, x1, x2, x3, x4⟩, xf⟩ := fill5_cells hYb
      refine bodyPost_ret (v := .tuple #[recV ⟨⟨#[]⟩, 0, 0, 0, ⟨#[]⟩⟩, .int .i64 (-1)]) (by simp [results, Tryz.results162, go_sem, recV, x0, x1, x2, x3, x4]) rfl ?_
      rw [HN.out]
      exact ⟨hYB, rfl⟩
    by_cases c2 : ty = 2
    ·subst c2
     have hcast : ((m + 3 : Nat) : Int) = (m : Int) + 3 := by omega
     have L := labels_ref s hs (m + 3) X (by omega)
     rw [hcast] at L
     clear hcast
     cases hc2 : cutS (tl s) (m + 3) with
     | none =>
      have HF : Hid (rrS (tl s) n = none) := by
       show _ = _
       rw [HR.out]; unfold rr2; rw [if_neg (by decide), if_pos (by decide), hc2]; rfl
      go_wp2_with fail
      refine (CRes.no L hc2).mono ?_
      rintro e w3 ⟨rfl, hb3⟩
      have hpA := heap_below hp4 hb3
      have hqA := heap_below hq4 hb3
      have hzA := heap_below hz4 hb3
      have hBA := hBX.trans (hb3.mono hBX.size)
      clear x0 x1 x2 x3 x4 xf y0 y1 y2 y3 y4 yf z0 z1 z2 z3 z4 zf
      go_wp2_with fail
      refine (joined_any _ [] _ (.inl ⟨rfl, rfl⟩) (by simp) (by simp)).mono ?_
      rw [List.map_nil]
      rintro e w4 ⟨rfl, hb4⟩
      have hpC := heap_below hpA hb4
      have hqC := heap_below hqA hb4
      have hzC := heap_below hzA hb4
      have hBC := hBA.trans (hb4.mono hBA.size)
      obtain ⟨⟨x0, x1, x2, x3, x4⟩, xf⟩ := fill5_cells hpC
      obtain ⟨⟨y0, y1, y2, y3, y4⟩, yf⟩ := fill5_cells hqC
      obtain ⟨⟨z0, z1, z2, z3, z4⟩, zf⟩ := fill5_cells hzC
      obtain ⟨X6, hX6⟩ : ∃ X1, X1 = w4.setCell ⟨p, 4, none⟩ (.string (mk (dotJoin []))) := ⟨_, rfl⟩
      have hp6 : X6.heap[p]? = some (.cells #[.string (mk (dotJoin l)), .int .i64 2, .int .i64 (t1 + 256 * t2), .int .i64 0, .string (mk (dotJoin []))] 71 (0, 0)) := by rw [hX6, heap_setCell_same _ p 4 _ 71 _ hpC]; rfl
      have hz6 : X6.heap[w.heap.size]? = some (.cells #[.string ⟨#[]⟩, .int .i64 0, .int .i64 0, .int .i64 0, .string ⟨#[]⟩] 71 (0, 0)) := by rw [hX6, Below.heap_setCell w4 ⟨p, 4, none⟩ _ _ hpb']; exact hzC
      have hq6 : X6.heap[w1.heap.size]? = some (.cells #[.string ⟨#[]⟩, .int .i64 0, .int .i64 0, .int .i64 0, .string ⟨#[]⟩] 71 (0, 0)) := by rw [hX6, Below.heap_setCell w4 ⟨p, 4, none⟩ _ _ (Ne.symm hpq)]; exact hqC
      have hB6 : Below w.heap.size w X6 := by rw [hX6]; exact hBC.setCell (by have := HsW.out; show w.heap.size ≤ p; omega) _
      have HX6 : Hid (w4.setCell ⟨p, 4, none⟩ (.string (mk (dotJoin []))) = X6) := hX6.symm
      clear hX6
      go_wp2_with fail
      rw [HX6.out]
      clear HX6
      refine (Well_any ⟨(mk (dotJoin l)), 2, (t1 + 256 * t2), 0, (mk (dotJoin []))⟩ _ hnz (by show ByteArray.size (mk []) ≤ 1048576; decide)).mono ?_
      rintro e w5 ⟨rfl, hb5⟩
      have hp5 := heap_below hp6 hb5
      have hq5 := heap_below hq6 hb5
      have hz5 := heap_below hz6 hb5
      have hB5 := hB6.trans (hb5.mono hB6.size)
      clear x0 x1 x2 x3 x4 xf y0 y1 y2 y3 y4 yf z0 z1 z2 z3 z4 zf
      obtain ⟨⟨x0, x1, x2, x3, x4⟩, xf⟩ := fill5_cells hp5
      obtain ⟨⟨y0, y1, y2, y3, y4⟩, yf⟩ := fill5_cells hq5
      obtain ⟨⟨z0, z1, z2, z3, z4⟩, zf⟩ := fill5_cells hz5
      cases hok : recOk ⟨(mk (dotJoin l)), 2, (t1 + 256 * t2), 0, (mk (dotJoin []))⟩ with
      | true =>
       go_wp2
       obtain ⟨Y, hY⟩ : ∃ Y, Y = fill5 w.heap.size (.string ⟨#[]⟩) (.int .i64 0) (.int .i64 0) (.int .i64 0) (.string ⟨#[]⟩) w5 := ⟨_, rfl⟩
       have hYb : Y.heap[w.heap.size]? = some (.cells #[.string ⟨#[]⟩, .int .i64 0, .int .i64 0, .int .i64 0, .string ⟨#[]⟩] 71 (0, 0)) := by rw [hY]; exact fill5_heap hz5
       have hYB : Below w.heap.size w Y := by rw [hY]; exact below_fill5 hB5 (Nat.le_refl _)
       unfold fill5 at hY
       rw [← hY]
       clear hY x0 x1 x2 x3 x4 xf y0 y1 y2 y3 y4 yf z0 z1 z2 z3 z4 zf
       obtain ⟨⟨x0, x1, x2, x3, x4⟩, xf⟩ := fill5_cells hYb
       refine bodyPost_ret (v := .tuple #[recV ⟨⟨#[]⟩, 0, 0, 0, ⟨#[]⟩⟩, .int .i64 (-1)]) (by simp [results, Tryz.results162, go_sem, recV, x0, x1, x2, x3, x4]) rfl ?_
       rw [HF.out]
       exact ⟨hYB, rfl⟩
      | false =>
       go_wp2
       obtain ⟨Y, hY⟩ : ∃ Y, Y = fill5 w.heap.size (.string ⟨#[]⟩) (.int .i64 0) (.int .i64 0) (.int .i64 0) (.string ⟨#[]⟩) w5 := ⟨_, rfl⟩
       have hYb : Y.heap[w.heap.size]? = some (.cells #[.string ⟨#[]⟩, .int .i64 0, .int .i64 0, .int .i64 0, .string ⟨#[]⟩] 71 (0, 0)) := by rw [hY]; exact fill5_heap hz5
       have hYB : Below w.heap.size w Y := by rw [hY]; exact below_fill5 hB5 (Nat.le_refl _)
       unfold fill5 at hY
       rw [← hY]
       clear hY x0 x1 x2 x3 x4 xf y0 y1 y2 y3 y4 yf z0 z1 z2 z3 z4 zf
       obtain ⟨⟨x0, x1, x2, x3, x4⟩, xf⟩ := fill5_cells hYb
       refine bodyPost_ret (v := .tuple #[recV ⟨⟨#[]⟩, 0, 0, 0, ⟨#[]⟩⟩, .int .i64 (-1)]) (by simp [results, Tryz.results162, go_sem, recV, x0, x1, x2, x3, x4]) rfl ?_
       rw [HF.out]
       exact ⟨hYB, rfl⟩
     | some y =>
      obtain ⟨l2, m2⟩ := y
      obtain ⟨_, hm2l, hl25, hall2⟩ := cutS_bd hc2
      rw [tl_length] at hm2l
      have HRR : Hid (rrS (tl s) n = ckS ⟨(mk (dotJoin l)), 2, (t1 + 256 * t2), 0, mk (dotJoin l2)⟩ m2) := by
       show _ = _
       rw [HR.out]; unfold rr2; rw [if_neg (by decide), if_pos (by decide), hc2]; rfl
      have htz : (mk (dotJoin l2)).size ≤ 1048576 := by
       rw [mk_size]
       have := dotJoin_le l2 (all_six hall2)
       omega
      go_wp2_with fail
      refine (CRes.ok L hc2).mono ?_
      rintro e w3 ⟨v2, ss2, rfl, hmap2, hsl2, hb3⟩
      have hpA := heap_below hp4 hb3
      have hqA := heap_below hq4 hb3
      have hzA := heap_below hz4 hb3
      have hBA := hBX.trans (hb3.mono hBX.size)
      have hss2 : ss2.length ≤ 5 := by rw [← List.length_map (f := tl), hmap2]; exact hl25
      have HM2 : Hid (ss2.map tl = l2) := hmap2
      have H62 : Hid (∀ x ∈ l2, x.length ≤ 6) := all_six hall2
      clear hmap2 hall2
      clear x0 x1 x2 x3 x4 xf y0 y1 y2 y3 y4 yf z0 z1 z2 z3 z4 zf
      go_wp2_with fail
      refine (joined_any _ ss2 _ hsl2 hss2 (by rw [HM2.out]; exact H62.out)).mono ?_
      rw [HM2.out]
      rintro e w4 ⟨rfl, hb4⟩
      have hpC := heap_below hpA hb4
      have hqC := heap_below hqA hb4
      have hzC := heap_below hzA hb4
      have hBC := hBA.trans (hb4.mono hBA.size)
      obtain ⟨⟨x0, x1, x2, x3, x4⟩, xf⟩ := fill5_cells hpC
      obtain ⟨⟨y0, y1, y2, y3, y4⟩, yf⟩ := fill5_cells hqC
      obtain ⟨⟨z0, z1, z2, z3, z4⟩, zf⟩ := fill5_cells hzC
      obtain ⟨X6, hX6⟩ : ∃ X1, X1 = w4.setCell ⟨p, 4, none⟩ (.string (mk (dotJoin l2))) := ⟨_, rfl⟩
      have hp6 : X6.heap[p]? = some (.cells #[.string (mk (dotJoin l)), .int .i64 2, .int .i64 (t1 + 256 * t2), .int .i64 0, .string (mk (dotJoin l2))] 71 (0, 0)) := by rw [hX6, heap_setCell_same _ p 4 _ 71 _ hpC]; rfl
      have hz6 : X6.heap[w.heap.size]? = some (.cells #[.string ⟨#[]⟩, .int .i64 0, .int .i64 0, .int .i64 0, .string ⟨#[]⟩] 71 (0, 0)) := by rw [hX6, Below.heap_setCell w4 ⟨p, 4, none⟩ _ _ hpb']; exact hzC
      have hq6 : X6.heap[w1.heap.size]? = some (.cells #[.string ⟨#[]⟩, .int .i64 0, .int .i64 0, .int .i64 0, .string ⟨#[]⟩] 71 (0, 0)) := by rw [hX6, Below.heap_setCell w4 ⟨p, 4, none⟩ _ _ (Ne.symm hpq)]; exact hqC
      have hB6 : Below w.heap.size w X6 := by rw [hX6]; exact hBC.setCell (by have := HsW.out; show w.heap.size ≤ p; omega) _
      have HX6 : Hid (w4.setCell ⟨p, 4, none⟩ (.string (mk (dotJoin l2))) = X6) := hX6.symm
      clear hX6
      go_wp2_with fail
      rw [HX6.out]
      clear HX6
      refine (Well_any ⟨(mk (dotJoin l)), 2, (t1 + 256 * t2), 0, (mk (dotJoin l2))⟩ _ hnz htz).mono ?_
      rintro e w5 ⟨rfl, hb5⟩
      have hp5 := heap_below hp6 hb5
      have hq5 := heap_below hq6 hb5
      have hz5 := heap_below hz6 hb5
      have hB5 := hB6.trans (hb5.mono hB6.size)
      clear x0 x1 x2 x3 x4 xf y0 y1 y2 y3 y4 yf z0 z1 z2 z3 z4 zf
      obtain ⟨⟨x0, x1, x2, x3, x4⟩, xf⟩ := fill5_cells hp5
      obtain ⟨⟨y0, y1, y2, y3, y4⟩, yf⟩ := fill5_cells hq5
      obtain ⟨⟨z0, z1, z2, z3, z4⟩, zf⟩ := fill5_cells hz5
      cases hok : recOk ⟨(mk (dotJoin l)), 2, (t1 + 256 * t2), 0, (mk (dotJoin l2))⟩ with
      | true =>
       have HF : Hid (rrS (tl s) n = some (⟨(mk (dotJoin l)), 2, (t1 + 256 * t2), 0, (mk (dotJoin l2))⟩, m2)) := by show _ = _; rw [HRR.out]; unfold ckS; rw [hok]; rfl
       go_wp2
       obtain ⟨Y, hY⟩ : ∃ Y, Y = fill5 w.heap.size (.string (mk (dotJoin l))) (.int .i64 2) (.int .i64 (t1 + 256 * t2)) (.int .i64 0) (.string (mk (dotJoin l2))) w5 := ⟨_, rfl⟩
       have hYb : Y.heap[w.heap.size]? = some (.cells #[.string (mk (dotJoin l)), .int .i64 2, .int .i64 (t1 + 256 * t2), .int .i64 0, .string (mk (dotJoin l2))] 71 (0, 0)) := by rw [hY]; exact fill5_heap hz5
       have hYB : Below w.heap.size w Y := by rw [hY]; exact below_fill5 hB5 (Nat.le_refl _)
       unfold fill5 at hY
       rw [← hY]
       clear hY x0 x1 x2 x3 x4 xf y0 y1 y2 y3 y4 yf z0 z1 z2 z3 z4 zf
       obtain ⟨⟨x0, x1, x2, x3, x4⟩, xf⟩ := fill5_cells hYb
       refine bodyPost_ret (v := .tuple #[recV ⟨(mk (dotJoin l)), 2, (t1 + 256 * t2), 0, (mk (dotJoin l2))⟩, .int .i64 (m2 : Nat)]) (by simp [results, Tryz.results162, go_sem, recV, x0, x1, x2, x3, x4]) rfl ?_
       rw [HF.out]
       exact ⟨hYB, rfl⟩
      | false =>
       have HF : Hid (rrS (tl s) n = none) := by show _ = _; rw [HRR.out]; unfold ckS; rw [hok]; rfl
       go_wp2
       obtain ⟨Y, hY⟩ : ∃ Y, Y = fill5 w.heap.size (.string ⟨#[]⟩) (.int .i64 0) (.int .i64 0) (.int .i64 0) (.string ⟨#[]⟩) w5 := ⟨_, rfl⟩
       have hYb : Y.heap[w.heap.size]? = some (.cells #[.string ⟨#[]⟩, .int .i64 0, .int .i64 0, .int .i64 0, .string ⟨#[]⟩] 71 (0, 0)) := by rw [hY]; exact fill5_heap hz5
       have hYB : Below w.heap.size w Y := by rw [hY]; exact below_fill5 hB5 (Nat.le_refl _)
       unfold fill5 at hY
       rw [← hY]
       clear hY x0 x1 x2 x3 x4 xf y0 y1 y2 y3 y4 yf z0 z1 z2 z3 z4 zf
       obtain ⟨⟨x0, x1, x2, x3, x4⟩, xf⟩ := fill5_cells hYb
       refine bodyPost_ret (v := .tuple #[recV ⟨⟨#[]⟩, 0, 0, 0, ⟨#[]⟩⟩, .int .i64 (-1)]) (by simp [results, Tryz.results162, go_sem, recV, x0, x1, x2, x3, x4]) rfl ?_
       rw [HF.out]
       exact ⟨hYB, rfl⟩
    by_cases c3 : ty = 3
    ·subst c3
     have hcast : ((m + 3 : Nat) : Int) = (m : Int) + 3 := by omega
     have L := labels_ref s hs (m + 3) X (by omega)
     rw [hcast] at L
     clear hcast
     cases hc2 : cutS (tl s) (m + 3) with
     | none =>
      have HF : Hid (rrS (tl s) n = none) := by
       show _ = _
       rw [HR.out]; unfold rr2; rw [if_neg (by decide), if_pos (by decide), hc2]; rfl
      go_wp2_with fail
      refine (CRes.no L hc2).mono ?_
      rintro e w3 ⟨rfl, hb3⟩
      have hpA := heap_below hp4 hb3
      have hqA := heap_below hq4 hb3
      have hzA := heap_below hz4 hb3
      have hBA := hBX.trans (hb3.mono hBX.size)
      clear x0 x1 x2 x3 x4 xf y0 y1 y2 y3 y4 yf z0 z1 z2 z3 z4 zf
      go_wp2_with fail
      refine (joined_any _ [] _ (.inl ⟨rfl, rfl⟩) (by simp) (by simp)).mono ?_
      rw [List.map_nil]
      rintro e w4 ⟨rfl, hb4⟩
      have hpC := heap_below hpA hb4
      have hqC := heap_below hqA hb4
      have hzC := heap_below hzA hb4
      have hBC := hBA.trans (hb4.mono hBA.size)
      obtain ⟨⟨x0, x1, x2, x3, x4⟩, xf⟩ := fill5_cells hpC
      obtain ⟨⟨y0, y1, y2, y3, y4⟩, yf⟩ := fill5_cells hqC
      obtain ⟨⟨z0, z1, z2, z3, z4⟩, zf⟩ := fill5_cells hzC
      obtain ⟨X6, hX6⟩ : ∃ X1, X1 = w4.setCell ⟨p, 4, none⟩ (.string (mk (dotJoin []))) := ⟨_, rfl⟩
      have hp6 : X6.heap[p]? = some (.cells #[.string (mk (dotJoin l)), .int .i64 3, .int .i64 (t1 + 256 * t2), .int .i64 0, .string (mk (dotJoin []))] 71 (0, 0)) := by rw [hX6, heap_setCell_same _ p 4 _ 71 _ hpC]; rfl
      have hz6 : X6.heap[w.heap.size]? = some (.cells #[.string ⟨#[]⟩, .int .i64 0, .int .i64 0, .int .i64 0, .string ⟨#[]⟩] 71 (0, 0)) := by rw [hX6, Below.heap_setCell w4 ⟨p, 4, none⟩ _ _ hpb']; exact hzC
      have hq6 : X6.heap[w1.heap.size]? = some (.cells #[.string ⟨#[]⟩, .int .i64 0, .int .i64 0, .int .i64 0, .string ⟨#[]⟩] 71 (0, 0)) := by rw [hX6, Below.heap_setCell w4 ⟨p, 4, none⟩ _ _ (Ne.symm hpq)]; exact hqC
      have hB6 : Below w.heap.size w X6 := by rw [hX6]; exact hBC.setCell (by have := HsW.out; show w.heap.size ≤ p; omega) _
      have HX6 : Hid (w4.setCell ⟨p, 4, none⟩ (.string (mk (dotJoin []))) = X6) := hX6.symm
      clear hX6
      go_wp2_with fail
      rw [HX6.out]
      clear HX6
      refine (Well_any ⟨(mk (dotJoin l)), 3, (t1 + 256 * t2), 0, (mk (dotJoin []))⟩ _ hnz (by show ByteArray.size (mk []) ≤ 1048576; decide)).mono ?_
      rintro e w5 ⟨rfl, hb5⟩
      have hp5 := heap_below hp6 hb5
      have hq5 := heap_below hq6 hb5
      have hz5 := heap_below hz6 hb5
      have hB5 := hB6.trans (hb5.mono hB6.size)
      clear x0 x1 x2 x3 x4 xf y0 y1 y2 y3 y4 yf z0 z1 z2 z3 z4 zf
      obtain ⟨⟨x0, x1, x2, x3, x4⟩, xf⟩ := fill5_cells hp5
      obtain ⟨⟨y0, y1, y2, y3, y4⟩, yf⟩ := fill5_cells hq5
      obtain ⟨⟨z0, z1, z2, z3, z4⟩, zf⟩ := fill5_cells hz5
      cases hok : recOk ⟨(mk (dotJoin l)), 3, (t1 + 256 * t2), 0, (mk (dotJoin []))⟩ with
      | true =>
       go_wp2
       obtain ⟨Y, hY⟩ : ∃ Y, Y = fill5 w.heap.size (.string ⟨#[]⟩) (.int .i64 0) (.int .i64 0) (.int .i64 0) (.string ⟨#[]⟩) w5 := ⟨_, rfl⟩
       have hYb : Y.heap[w.heap.size]? = some (.cells #[.string ⟨#[]⟩, .int .i64 0, .int .i64 0, .int .i64 0, .string ⟨#[]⟩] 71 (0, 0)) := by rw [hY]; exact fill5_heap hz5
       have hYB : Below w.heap.size w Y := by rw [hY]; exact below_fill5 hB5 (Nat.le_refl _)
       unfold fill5 at hY
       rw [← hY]
       clear hY x0 x1 x2 x3 x4 xf y0 y1 y2 y3 y4 yf z0 z1 z2 z3 z4 zf
       obtain ⟨⟨x0, x1, x2, x3, x4⟩, xf⟩ := fill5_cells hYb
       refine bodyPost_ret (v := .tuple #[recV ⟨⟨#[]⟩, 0, 0, 0, ⟨#[]⟩⟩, .int .i64 (-1)]) (by simp [results, Tryz.results162, go_sem, recV, x0, x1, x2, x3, x4]) rfl ?_
       rw [HF.out]
       exact ⟨hYB, rfl⟩
      | false =>
       go_wp2
       obtain ⟨Y, hY⟩ : ∃ Y, Y = fill5 w.heap.size (.string ⟨#[]⟩) (.int .i64 0) (.int .i64 0) (.int .i64 0) (.string ⟨#[]⟩) w5 := ⟨_, rfl⟩
       have hYb : Y.heap[w.heap.size]? = some (.cells #[.string ⟨#[]⟩, .int .i64 0, .int .i64 0, .int .i64 0, .string ⟨#[]⟩] 71 (0, 0)) := by rw [hY]; exact fill5_heap hz5
       have hYB : Below w.heap.size w Y := by rw [hY]; exact below_fill5 hB5 (Nat.le_refl _)
       unfold fill5 at hY
       rw [← hY]
       clear hY x0 x1 x2 x3 x4 xf y0 y1 y2 y3 y4 yf z0 z1 z2 z3 z4 zf
       obtain ⟨⟨x0, x1, x2, x3, x4⟩, xf⟩ := fill5_cells hYb
       refine bodyPost_ret (v := .tuple #[recV ⟨⟨#[]⟩, 0, 0, 0, ⟨#[]⟩⟩, .int .i64 (-1)]) (by simp [results, Tryz.results162, go_sem, recV, x0, x1, x2, x3, x4]) rfl ?_
       rw [HF.out]
       exact ⟨hYB, rfl⟩
     | some y =>
      obtain ⟨l2, m2⟩ := y
      obtain ⟨_, hm2l, hl25, hall2⟩ := cutS_bd hc2
      rw [tl_length] at hm2l
      have HRR : Hid (rrS (tl s) n = ckS ⟨(mk (dotJoin l)), 3, (t1 + 256 * t2), 0, mk (dotJoin l2)⟩ m2) := by
       show _ = _
       rw [HR.out]; unfold rr2; rw [if_neg (by decide), if_pos (by decide), hc2]; rfl
      have htz : (mk (dotJoin l2)).size ≤ 1048576 := by
       rw [mk_size]
       have := dotJoin_le l2 (all_six hall2)
       omega
      go_wp2_with fail
      refine (CRes.ok L hc2).mono ?_
      rintro e w3 ⟨v2, ss2, rfl, hmap2, hsl2, hb3⟩
      have hpA := heap_below hp4 hb3
      have hqA := heap_below hq4 hb3
      have hzA := heap_below hz4 hb3
      have hBA := hBX.trans (hb3.mono hBX.size)
      have hss2 : ss2.length ≤ 5 := by rw [← List.length_map (f := tl), hmap2]; exact hl25
      have HM2 : Hid (ss2.map tl = l2) := hmap2
      have H62 : Hid (∀ x ∈ l2, x.length ≤ 6) := all_six hall2
      clear hmap2 hall2
      clear x0 x1 x2 x3 x4 xf y0 y1 y2 y3 y4 yf z0 z1 z2 z3 z4 zf
      go_wp2_with fail
      refine (joined_any _ ss2 _ hsl2 hss2 (by rw [HM2.out]; exact H62.out)).mono ?_
      rw [HM2.out]
      rintro e w4 ⟨rfl, hb4⟩
      have hpC := heap_below hpA hb4
      have hqC := heap_below hqA hb4
      have hzC := heap_below hzA hb4
      have hBC := hBA.trans (hb4.mono hBA.size)
      obtain ⟨⟨x0, x1, x2, x3, x4⟩, xf⟩ := fill5_cells hpC
      obtain ⟨⟨y0, y1, y2, y3, y4⟩, yf⟩ := fill5_cells hqC
      obtain ⟨⟨z0, z1, z2, z3, z4⟩, zf⟩ := fill5_cells hzC
      obtain ⟨X6, hX6⟩ : ∃ X1, X1 = w4.setCell ⟨p, 4, none⟩ (.string (mk (dotJoin l2))) := ⟨_, rfl⟩
      have hp6 : X6.heap[p]? = some (.cells #[.string (mk (dotJoin l)), .int .i64 3, .int .i64 (t1 + 256 * t2), .int .i64 0, .string (mk (dotJoin l2))] 71 (0, 0)) := by rw [hX6, heap_setCell_same _ p 4 _ 71 _ hpC]; rfl
      have hz6 : X6.heap[w.heap.size]? = some (.cells #[.string ⟨#[]⟩, .int .i64 0, .int .i64 0, .int .i64 0, .string ⟨#[]⟩] 71 (0, 0)) := by rw [hX6, Below.heap_setCell w4 ⟨p, 4, none⟩ _ _ hpb']; exact hzC
      have hq6 : X6.heap[w1.heap.size]? = some (.cells #[.string ⟨#[]⟩, .int .i64 0, .int .i64 0, .int .i64 0, .string ⟨#[]⟩] 71 (0, 0)) := by rw [hX6, Below.heap_setCell w4 ⟨p, 4, none⟩ _ _ (Ne.symm hpq)]; exact hqC
      have hB6 : Below w.heap.size w X6 := by rw [hX6]; exact hBC.setCell (by have := HsW.out; show w.heap.size ≤ p; omega) _
      have HX6 : Hid (w4.setCell ⟨p, 4, none⟩ (.string (mk (dotJoin l2))) = X6) := hX6.symm
      clear hX6
      go_wp2_with fail
      rw [HX6.out]
      clear HX6
      refine (Well_any ⟨(mk (dotJoin l)), 3, (t1 + 256 * t2), 0, (mk (dotJoin l2))⟩ _ hnz htz).mono ?_
      rintro e w5 ⟨rfl, hb5⟩
      have hp5 := heap_below hp6 hb5
      have hq5 := heap_below hq6 hb5
      have hz5 := heap_below hz6 hb5
      have hB5 := hB6.trans (hb5.mono hB6.size)
      clear x0 x1 x2 x3 x4 xf y0 y1 y2 y3 y4 yf z0 z1 z2 z3 z4 zf
      obtain ⟨⟨x0, x1, x2, x3, x4⟩, xf⟩ := fill5_cells hp5
      obtain ⟨⟨y0, y1, y2, y3, y4⟩, yf⟩ := fill5_cells hq5
      obtain ⟨⟨z0, z1, z2, z3, z4⟩, zf⟩ := fill5_cells hz5
      cases hok : recOk ⟨(mk (dotJoin l)), 3, (t1 + 256 * t2), 0, (mk (dotJoin l2))⟩ with
      | true =>
       have HF : Hid (rrS (tl s) n = some (⟨(mk (dotJoin l)), 3, (t1 + 256 * t2), 0, (mk (dotJoin l2))⟩, m2)) := by show _ = _; rw [HRR.out]; unfold ckS; rw [hok]; rfl
       go_wp2
       obtain ⟨Y, hY⟩ : ∃ Y, Y = fill5 w.heap.size (.string (mk (dotJoin l))) (.int .i64 3) (.int .i64 (t1 + 256 * t2)) (.int .i64 0) (.string (mk (dotJoin l2))) w5 := ⟨_, rfl⟩
       have hYb : Y.heap[w.heap.size]? = some (.cells #[.string (mk (dotJoin l)), .int .i64 3, .int .i64 (t1 + 256 * t2), .int .i64 0, .string (mk (dotJoin l2))] 71 (0, 0)) := by rw [hY]; exact fill5_heap hz5
       have hYB : Below w.heap.size w Y := by rw [hY]; exact below_fill5 hB5 (Nat.le_refl _)
       unfold fill5 at hY
       rw [← hY]
       clear hY x0 x1 x2 x3 x4 xf y0 y1 y2 y3 y4 yf z0 z1 z2 z3 z4 zf
       obtain ⟨⟨x0, x1, x2, x3, x4⟩, xf⟩ := fill5_cells hYb
       refine bodyPost_ret (v := .tuple #[recV ⟨(mk (dotJoin l)), 3, (t1 + 256 * t2), 0, (mk (dotJoin l2))⟩, .int .i64 (m2 : Nat)]) (by simp [results, Tryz.results162, go_sem, recV, x0, x1, x2, x3, x4]) rfl ?_
       rw [HF.out]
       exact ⟨hYB, rfl⟩
      | false =>
       have HF : Hid (rrS (tl s) n = none) := by show _ = _; rw [HRR.out]; unfold ckS; rw [hok]; rfl
       go_wp2
       obtain ⟨Y, hY⟩ : ∃ Y, Y = fill5 w.heap.size (.string ⟨#[]⟩) (.int .i64 0) (.int .i64 0) (.int .i64 0) (.string ⟨#[]⟩) w5 := ⟨_, rfl⟩
       have hYb : Y.heap[w.heap.size]? = some (.cells #[.string ⟨#[]⟩, .int .i64 0, .int .i64 0, .int .i64 0, .string ⟨#[]⟩] 71 (0, 0)) := by rw [hY]; exact fill5_heap hz5
       have hYB : Below w.heap.size w Y := by rw [hY]; exact below_fill5 hB5 (Nat.le_refl _)
       unfold fill5 at hY
       rw [← hY]
       clear hY x0 x1 x2 x3 x4 xf y0 y1 y2 y3 y4 yf z0 z1 z2 z3 z4 zf
       obtain ⟨⟨x0, x1, x2, x3, x4⟩, xf⟩ := fill5_cells hYb
       refine bodyPost_ret (v := .tuple #[recV ⟨⟨#[]⟩, 0, 0, 0, ⟨#[]⟩⟩, .int .i64 (-1)]) (by simp [results, Tryz.results162, go_sem, recV, x0, x1, x2, x3, x4]) rfl ?_
       rw [HF.out]
       exact ⟨hYB, rfl⟩
    have HRR : Hid (rrS (tl s) n = ckS ⟨(mk (dotJoin l)), ty, (t1 + 256 * t2), 0, ⟨#[]⟩⟩ (m + 3)) := by
     show _ = _
     rw [HR.out]; unfold rr2; rw [if_neg c1, if_neg (by omega)]
    have c1b : (ty == 1) = false := by simpa using c1
    have c2b : (ty == 2) = false := by simpa using c2
    have c3b : (ty == 3) = false := by simpa using c3
    have hp7 := hp4
    have hq7 := hq4
    have hz7 := hz4
    have hB7 := hBX
    go_wp2_with fail
    refine (Well_any ⟨(mk (dotJoin l)), ty, (t1 + 256 * t2), 0, ⟨#[]⟩⟩ _ hnz hez).mono ?_
    rintro e w5 ⟨rfl, hb5⟩
    have hp5 := heap_below hp7 hb5
    have hq5 := heap_below hq7 hb5
    have hz5 := heap_below hz7 hb5
    have hB5 := hB7.trans (hb5.mono hB7.size)
    clear x0 x1 x2 x3 x4 xf y0 y1 y2 y3 y4 yf z0 z1 z2 z3 z4 zf
    obtain ⟨⟨x0, x1, x2, x3, x4⟩, xf⟩ := fill5_cells hp5
    obtain ⟨⟨y0, y1, y2, y3, y4⟩, yf⟩ := fill5_cells hq5
    obtain ⟨⟨z0, z1, z2, z3, z4⟩, zf⟩ := fill5_cells hz5
    cases hok : recOk ⟨(mk (dotJoin l)), ty, (t1 + 256 * t2), 0, ⟨#[]⟩⟩ with
    | true =>
     have HF : Hid (rrS (tl s) n = some (⟨(mk (dotJoin l)), ty, (t1 + 256 * t2), 0, ⟨#[]⟩⟩, m + 3)) := by show _ = _; rw [HRR.out]; unfold ckS; rw [hok]; rfl
     go_wp2
     obtain ⟨Y, hY⟩ : ∃ Y, Y = fill5 w.heap.size (.string (mk (dotJoin l))) (.int .i64 ty) (.int .i64 (t1 + 256 * t2)) (.int .i64 0) (.string ⟨#[]⟩) w5 := ⟨_, rfl⟩
     have hYb : Y.heap[w.heap.size]? = some (.cells #[.string (mk (dotJoin l)), .int .i64 ty, .int .i64 (t1 + 256 * t2), .int .i64 0, .string ⟨#[]⟩] 71 (0, 0)) := by rw [hY]; exact fill5_heap hz5
     have hYB : Below w.heap.size w Y := by rw [hY]; exact below_fill5 hB5 (Nat.le_refl _)
     unfold fill5 at hY
     rw [← hY]
     clear hY x0 x1 x2 x3 x4 xf y0 y1 y2 y3 y4 yf z0 z1 z2 z3 z4 zf
     obtain ⟨⟨x0, x1, x2, x3, x4⟩, xf⟩ := fill5_cells hYb
     refine bodyPost_ret (v := .tuple #[recV ⟨(mk (dotJoin l)), ty, (t1 + 256 * t2), 0, ⟨#[]⟩⟩, .int .i64 (m + 3 : Nat)]) (by simp [results, Tryz.results162, go_sem, recV, x0, x1, x2, x3, x4]) rfl ?_
     rw [HF.out]
     exact ⟨hYB, rfl⟩
    | false =>
     have HF : Hid (rrS (tl s) n = none) := by show _ = _; rw [HRR.out]; unfold ckS; rw [hok]; rfl
     go_wp2
     obtain ⟨Y, hY⟩ : ∃ Y, Y = fill5 w.heap.size (.string ⟨#[]⟩) (.int .i64 0) (.int .i64 0) (.int .i64 0) (.string ⟨#[]⟩) w5 := ⟨_, rfl⟩
     have hYb : Y.heap[w.heap.size]? = some (.cells #[.string ⟨#[]⟩, .int .i64 0, .int .i64 0, .int .i64 0, .string ⟨#[]⟩] 71 (0, 0)) := by rw [hY]; exact fill5_heap hz5
     have hYB : Below w.heap.size w Y := by rw [hY]; exact below_fill5 hB5 (Nat.le_refl _)
     unfold fill5 at hY
     rw [← hY]
     clear hY x0 x1 x2 x3 x4 xf y0 y1 y2 y3 y4 yf z0 z1 z2 z3 z4 zf
     obtain ⟨⟨x0, x1, x2, x3, x4⟩, xf⟩ := fill5_cells hYb
     refine bodyPost_ret (v := .tuple #[recV ⟨⟨#[]⟩, 0, 0, 0, ⟨#[]⟩⟩, .int .i64 (-1)]) (by simp [results, Tryz.results162, go_sem, recV, x0, x1, x2, x3, x4]) rfl ?_
     rw [HF.out]
     exact ⟨hYB, rfl⟩
end Go.Proofs.YtefdokkadckbbaaGreatDoor
