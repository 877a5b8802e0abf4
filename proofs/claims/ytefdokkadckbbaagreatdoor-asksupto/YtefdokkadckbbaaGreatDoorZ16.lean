/- Ha -/
import Derived.Test.YtefdokkadckbbaaGreatDoorZ15
import Derived.Defers
import Derived.Recover
namespace Go.Proofs.YtefdokkadckbbaaGreatDoor
open Go.RowKit
set_option maxRecDepth 100000
theorem fill8_heap {b : Nat} {u0 u1 u2 u3 u4 u5 u6 u7 v0 v1 v2 v3 v4 v5 v6 v7 : Value} {W : World} (h : W.heap[b]? = some (.cells #[u0, u1, u2, u3, u4, u5, u6, u7] 27 (0, 0))) : (fill8 b v0 v1 v2 v3 v4 v5 v6 v7 W).heap[b]? = some (.cells #[v0, v1, v2, v3, v4, v5, v6, v7] 27 (0, 0)) := by
 unfold fill8
 have e1 : (W.setCell ⟨b, 0, none⟩ v0).heap[b]? = some (.cells #[v0, u1, u2, u3, u4, u5, u6, u7] 27 (0, 0)) := by rw [heap_setCell_same _ b 0 _ 27 v0 h]; rfl
 have e2 : ((W.setCell ⟨b, 0, none⟩ v0).setCell ⟨b, 1, none⟩ v1).heap[b]? = some (.cells #[v0, v1, u2, u3, u4, u5, u6, u7] 27 (0, 0)) := by rw [heap_setCell_same _ b 1 _ 27 v1 e1]; rfl
 have e3 : (((W.setCell ⟨b, 0, none⟩ v0).setCell ⟨b, 1, none⟩ v1).setCell ⟨b, 2, none⟩ v2).heap[b]? = some (.cells #[v0, v1, v2, u3, u4, u5, u6, u7] 27 (0, 0)) := by rw [heap_setCell_same _ b 2 _ 27 v2 e2]; rfl
 have e4 : ((((W.setCell ⟨b, 0, none⟩ v0).setCell ⟨b, 1, none⟩ v1).setCell ⟨b, 2, none⟩ v2).setCell ⟨b, 3, none⟩ v3).heap[b]? = some (.cells #[v0, v1, v2, v3, u4, u5, u6, u7] 27 (0, 0)) := by rw [heap_setCell_same _ b 3 _ 27 v3 e3]; rfl
 have e5 : (((((W.setCell ⟨b, 0, none⟩ v0).setCell ⟨b, 1, none⟩ v1).setCell ⟨b, 2, none⟩ v2).setCell ⟨b, 3, none⟩ v3).setCell ⟨b, 4, none⟩ v4).heap[b]? = some (.cells #[v0, v1, v2, v3, v4, u5, u6, u7] 27 (0, 0)) := by rw [heap_setCell_same _ b 4 _ 27 v4 e4]; rfl
 have e6 : ((((((W.setCell ⟨b, 0, none⟩ v0).setCell ⟨b, 1, none⟩ v1).setCell ⟨b, 2, none⟩ v2).setCell ⟨b, 3, none⟩ v3).setCell ⟨b, 4, none⟩ v4).setCell ⟨b, 5, none⟩ v5).heap[b]? = some (.cells #[v0, v1, v2, v3, v4, v5, u6, u7] 27 (0, 0)) := by rw [heap_setCell_same _ b 5 _ 27 v5 e5]; rfl
 have e7 : (((((((W.setCell ⟨b, 0, none⟩ v0).setCell ⟨b, 1, none⟩ v1).setCell ⟨b, 2, none⟩ v2).setCell ⟨b, 3, none⟩ v3).setCell ⟨b, 4, none⟩ v4).setCell ⟨b, 5, none⟩ v5).setCell ⟨b, 6, none⟩ v6).heap[b]? = some (.cells #[v0, v1, v2, v3, v4, v5, v6, u7] 27 (0, 0)) := by rw [heap_setCell_same _ b 6 _ 27 v6 e6]; rfl
 have e8 : ((((((((W.setCell ⟨b, 0, none⟩ v0).setCell ⟨b, 1, none⟩ v1).setCell ⟨b, 2, none⟩ v2).setCell ⟨b, 3, none⟩ v3).setCell ⟨b, 4, none⟩ v4).setCell ⟨b, 5, none⟩ v5).setCell ⟨b, 6, none⟩ v6).setCell ⟨b, 7, none⟩ v7).heap[b]? = some (.cells #[v0, v1, v2, v3, v4, v5, v6, v7] 27 (0, 0)) := by rw [heap_setCell_same _ b 7 _ 27 v7 e7]; rfl
 rw [e8]
theorem fill8_other {b k : Nat} {v0 v1 v2 v3 v4 v5 v6 v7 : Value} {W : World} (hk : k ≠ b) : (fill8 b v0 v1 v2 v3 v4 v5 v6 v7 W).heap[k]? = W.heap[k]? := by
 unfold fill8
 rw [Below.heap_setCell (((((((W.setCell ⟨b, 0, none⟩ v0).setCell ⟨b, 1, none⟩ v1).setCell ⟨b, 2, none⟩ v2).setCell ⟨b, 3, none⟩ v3).setCell ⟨b, 4, none⟩ v4).setCell ⟨b, 5, none⟩ v5).setCell ⟨b, 6, none⟩ v6) ⟨b, 7, none⟩ v7 k (by simpa using hk)]
 rw [Below.heap_setCell ((((((W.setCell ⟨b, 0, none⟩ v0).setCell ⟨b, 1, none⟩ v1).setCell ⟨b, 2, none⟩ v2).setCell ⟨b, 3, none⟩ v3).setCell ⟨b, 4, none⟩ v4).setCell ⟨b, 5, none⟩ v5) ⟨b, 6, none⟩ v6 k (by simpa using hk)]
 rw [Below.heap_setCell (((((W.setCell ⟨b, 0, none⟩ v0).setCell ⟨b, 1, none⟩ v1).setCell ⟨b, 2, none⟩ v2).setCell ⟨b, 3, none⟩ v3).setCell ⟨b, 4, none⟩ v4) ⟨b, 5, none⟩ v5 k (by simpa using hk)]
 rw [Below.heap_setCell ((((W.setCell ⟨b, 0, none⟩ v0).setCell ⟨b, 1, none⟩ v1).setCell ⟨b, 2, none⟩ v2).setCell ⟨b, 3, none⟩ v3) ⟨b, 4, none⟩ v4 k (by simpa using hk)]
 rw [Below.heap_setCell (((W.setCell ⟨b, 0, none⟩ v0).setCell ⟨b, 1, none⟩ v1).setCell ⟨b, 2, none⟩ v2) ⟨b, 3, none⟩ v3 k (by simpa using hk)]
 rw [Below.heap_setCell ((W.setCell ⟨b, 0, none⟩ v0).setCell ⟨b, 1, none⟩ v1) ⟨b, 2, none⟩ v2 k (by simpa using hk)]
 rw [Below.heap_setCell (W.setCell ⟨b, 0, none⟩ v0) ⟨b, 1, none⟩ v1 k (by simpa using hk)]
 rw [Below.heap_setCell W ⟨b, 0, none⟩ v0 k (by simpa using hk)]
theorem fill8_size {b : Nat} {v0 v1 v2 v3 v4 v5 v6 v7 : Value} {W : World} : (fill8 b v0 v1 v2 v3 v4 v5 v6 v7 W).heap.size = W.heap.size := by simp [fill8]
theorem below_fill {B b : Nat} {v0 v1 v2 v3 v4 v5 v6 v7 : Value} {w W : World} (h : Below B w W) (hb : B ≤ b) : Below B w (fill8 b v0 v1 v2 v3 v4 v5 v6 v7 W) :=
 ((((((((h.setCell hb _).setCell hb _).setCell hb _).setCell hb _).setCell hb _).setCell hb _).setCell hb _).setCell hb _)
def zMsg : Value := .agg #[.int .i64 0, .bool false, .int .i64 0, .string ⟨#[]⟩, .int .i64 0, .slice none 0 0, .slice none 0 0, .slice none 0 0]
set_option maxHeartbeats 1000000 in
theorem catch_gave (p q : Nat) (w : World) (x : Int) (hpq : q ≠ p) (h8 : w.heap[p]? = some (.cells #[.int .i64 0, .bool false, .int .i64 0, .string ⟨#[]⟩, .int .i64 0, .slice none 0 0, .slice none 0 0, .slice none 0 0] 27 (0, 0))) (h1 : w.heap[q]? = some (.cells #[.int .i64 x] 67 (0, 0))) :
  CallsD Tryz.prog 102 #[.pointer (some ⟨p, 0, none⟩), .pointer (some ⟨q, 0, none⟩)] (.panicking gaveUp) w fun e u' w' =>
   e = .returned (.tuple #[]) ∧ u' = .panicking [{ v := .iface 302 (.agg #[]), recovered := true }] ∧ w' = (fill8 p (.int .i64 0) (.bool false) (.int .i64 0) (.string ⟨#[]⟩) (.int .i64 0) (.slice none 0 0) (.slice none 0 0) (.slice none 0 0) w).setCell ⟨q, 0, none⟩ (.int .i64 2) := by
 obtain ⟨x0, x1, x2, x3, x4, x5, x6, x7⟩ := fill8_cells h8
 have xf : ∀ k, w.frozen? ⟨p, k, none⟩ = false := fun k => frozen_of_row w p k _ 27 h8
 have y0 : w.cell? ⟨q, 0, none⟩ = some (.int .i64 x) := by rw [cellB h1]; rfl
 have yf : w.frozen? ⟨q, 0, none⟩ = false := frozen_of_row w q 0 _ 67 h1
 unfold gaveUp fill8
 refine callsD_of_wpS Tryz.func102 rfl fun c₀ cs hu => ?_
 apply wpS_seq
 apply wpS_region
 simp [wpOpsS, go_sem, recoverD, hu, Tryz.ntmps102, Exit.thenS]
 refine wpS_cond (t := true) (by simp [Act.eval, Array.replicate]) ?_
 simp only [if_true]
 apply wpS_region
 simp [wpOpsS, go_sem, x0, x1, x2, x3, x4, x5, x6, x7, xf, y0, yf, bodyPostS, results, Tryz.results102]
set_option maxHeartbeats 1000000 in
theorem catch_idle (p q : Addr) (w : World) :
  CallsD Tryz.prog 102 #[.pointer (some p), .pointer (some q)] .returning w fun e u' w' => e = .returned (.tuple #[]) ∧ u' = .returning ∧ w' = w := by
 refine callsD_of_wpS Tryz.func102 rfl fun c₀ cs hu => ?_
 apply wpS_seq
 apply wpS_region
 simp [wpOpsS, go_sem, recoverD, hu, Tryz.ntmps102, Exit.thenS]
 refine wpS_cond (t := false) (by simp [Act.eval, Array.replicate]) ?_
 simp only [Bool.false_eq_true, if_false]
 refine wpS_of_wp (wp_skip ?_)
 cases c₀
 simp_all [bodyPostS, results, Tryz.results102]
def DRes (w : World) (o : Option Msg) (e : Ending) (w' : World) : Prop :=
 Below w.heap.size w w' ∧ (match o with
  | some m => ∃ va vs vm b1 b2, e = .returned (.tuple #[.agg #[.int .i64 m.id, .bool m.reply, .int .i64 m.code, .string m.name, .int .i64 m.ty, va, vs, vm], .int .i64 0]) ∧ Lst w.heap.size b1 w' va m.answer ∧ Lst b1 b2 w' vs m.servers ∧ Lst b2 w'.heap.size w' vm m.more ∧ w.heap.size ≤ b1 ∧ b1 ≤ b2 ∧ b2 ≤ w'.heap.size
  | none => e = .returned (.tuple #[zMsg, .int .i64 2]))
set_option maxHeartbeats 2000000 in
theorem wDecode_any (s : ByteArray) (w : World) (hsz : s.size ≤ 1048576) :
  Calls Tryz.prog 57 #[.string s] w (DRes w (msgS (tl s))) := by
 have hmf : ∀ (fn : Fn) (first cap : Array Value) (w : World), (Instr.makeFunc fn first cap).run Tryz.prog w = .ok (.func fn first cap) w := fun _ _ _ _ => rfl
 obtain ⟨W0, hW0⟩ : ∃ W0, W0 = ((w.alloc (Obj.cells #[.int .i64 0, .bool false, .int .i64 0, .string ⟨#[]⟩, .int .i64 0, .slice none 0 0, .slice none 0 0, .slice none 0 0] 27)).alloc (Obj.cells #[.int .i64 0] 67)).alloc (Obj.cells #[.string s, .int .i64 0] 188) := ⟨_, rfl⟩
 have hs0 : W0.heap.size = w.heap.size + 3 := by rw [hW0]; simp
 have h8 : W0.heap[w.heap.size]? = some (.cells #[.int .i64 0, .bool false, .int .i64 0, .string ⟨#[]⟩, .int .i64 0, .slice none 0 0, .slice none 0 0, .slice none 0 0] 27 (0, 0)) := by
  rw [hW0, Below.heap_alloc _ _ _ (by simp; omega), Below.heap_alloc _ _ _ (by simp), heap_alloc_new]
 have h1 : W0.heap[w.heap.size + 1]? = some (.cells #[.int .i64 0] 67 (0, 0)) := by
  rw [hW0, Below.heap_alloc _ _ _ (by simp)]
  have := heap_alloc_new (w.alloc (Obj.cells #[.int .i64 0, .bool false, .int .i64 0, .string ⟨#[]⟩, .int .i64 0, .slice none 0 0, .slice none 0 0, .slice none 0 0] 27)) (Obj.cells #[.int .i64 0] 67)
  rw [World.size_alloc] at this
  exact this
 have hr : Rd (w.heap.size + 1 + 1) s 0 W0 := by
  have := heap_alloc_new ((w.alloc (Obj.cells #[.int .i64 0, .bool false, .int .i64 0, .string ⟨#[]⟩, .int .i64 0, .slice none 0 0, .slice none 0 0, .slice none 0 0] 27)).alloc (Obj.cells #[.int .i64 0] 67)) (Obj.cells #[.string s, .int .i64 0] 188)
  rw [World.size_alloc, World.size_alloc] at this
  rw [hW0]; exact this
 have hB : Below w.heap.size w W0 := by rw [hW0]; exact (((Below.refl _ w).alloc (Nat.le_refl _) _).alloc (by simp) _).alloc (by simp; omega) _
 go_enter_defers Tryz.func57, Tryz.ntmps57
 go_wp2_with fail
 rw [← hW0]
 clear hW0
 refine (messageR (w.heap.size + 1 + 1) s W0 hr hsz).mono ?_
 cases hm : msgS (tl s) with
 | none =>
  rintro e w1 ⟨o1, rfl⟩
  have h8' : w1.heap[w.heap.size]? = some (.cells #[.int .i64 0, .bool false, .int .i64 0, .string ⟨#[]⟩, .int .i64 0, .slice none 0 0, .slice none 0 0, .slice none 0 0] 27 (0, 0)) := by rw [o1.block _ (by omega) (by omega)]; exact h8
  have h1' : w1.heap[w.heap.size + 1]? = some (.cells #[.int .i64 0] 67 (0, 0)) := by rw [o1.block _ (by omega) (by omega)]; exact h1
  have hB1 : Below w.heap.size w w1 := o1.below hB (by omega) (Nat.le_refl _)
  refine leaves_cons (f := 102) (args := #[.pointer (some ⟨w.heap.size, 0, none⟩), .pointer (some ⟨w.heap.size + 1, 0, none⟩)]) (by simp) (by simp [go_sem]) ?_
  refine (catch_gave w.heap.size (w.heap.size + 1) w1 0 (by omega) h8' h1').mono ?_
  rintro e u' w'' ⟨rfl, rfl, hw''⟩
  have h8'' : w''.heap[w.heap.size]? = some (.cells #[.int .i64 0, .bool false, .int .i64 0, .string ⟨#[]⟩, .int .i64 0, .slice none 0 0, .slice none 0 0, .slice none 0 0] 27 (0, 0)) := by
   rw [hw'', Below.heap_setCell _ ⟨w.heap.size + 1, 0, none⟩ _ _ (by simp)]; exact fill8_heap h8'
  have h1'' : w''.heap[w.heap.size + 1]? = some (.cells #[.int .i64 2] 67 (0, 0)) := by
   rw [hw'', heap_setCell_same _ (w.heap.size + 1) 0 #[.int .i64 0] 67 _ (by rw [fill8_other (by omega)]; exact h1')]; rfl
  have hB2 : Below w.heap.size w w'' := by
   rw [hw'']
   refine Below.setCell ?_ (by simp) _
   exact below_fill hB1 (Nat.le_refl _)
  obtain ⟨x0, x1, x2, x3, x4, x5, x6, x7⟩ := fill8_cells h8''
  have y0 : w''.cell? ⟨w.heap.size + 1, 0, none⟩ = some (.int .i64 2) := by rw [cellB h1'']; rfl
  simp [Leaves, settle, results, Tryz.results57, go_sem, x0, x1, x2, x3, x4, x5, x6, x7, y0]
  exact ⟨hB2, rfl⟩
 | some m =>
  rintro e w1 ⟨o1, va, vs, vm, b1, b2, rfl, L1, L2, L3, g1, g2, g3⟩
  obtain ⟨aa, ca, rfl⟩ := own_shape L1.1
  obtain ⟨ab, cb, rfl⟩ := own_shape L2.1
  obtain ⟨am, cm, rfl⟩ := own_shape L3.1
  have h8' : w1.heap[w.heap.size]? = some (.cells #[.int .i64 0, .bool false, .int .i64 0, .string ⟨#[]⟩, .int .i64 0, .slice none 0 0, .slice none 0 0, .slice none 0 0] 27 (0, 0)) := by rw [o1.block _ (by omega) (by omega)]; exact h8
  have h1' : w1.heap[w.heap.size + 1]? = some (.cells #[.int .i64 0] 67 (0, 0)) := by rw [o1.block _ (by omega) (by omega)]; exact h1
  have hB1 : Below w.heap.size w w1 := o1.below hB (by omega) (Nat.le_refl _)
  obtain ⟨x0, x1, x2, x3, x4, x5, x6, x7⟩ := fill8_cells h8'
  have xf : ∀ k, w1.frozen? ⟨w.heap.size, k, none⟩ = false := fun k => frozen_of_row w1 _ k _ 27 h8'
  have y0 : w1.cell? ⟨w.heap.size + 1, 0, none⟩ = some (.int .i64 0) := by rw [cellB h1']; rfl
  have yf : w1.frozen? ⟨w.heap.size + 1, 0, none⟩ = false := frozen_of_row w1 _ 0 _ 67 h1'
  go_wp2_with fail
  obtain ⟨Y, hY⟩ : ∃ Y, Y = (fill8 w.heap.size (.int .i64 m.id) (.bool m.reply) (.int .i64 m.code) (.string m.name) (.int .i64 m.ty) (.slice aa m.answer.length ca) (.slice ab m.servers.length cb) (.slice am m.more.length cm) w1).setCell ⟨w.heap.size + 1, 0, none⟩ (.int .i64 0) := ⟨_, rfl⟩
  have h8'' : Y.heap[w.heap.size]? = some (.cells #[.int .i64 m.id, .bool m.reply, .int .i64 m.code, .string m.name, .int .i64 m.ty, .slice aa m.answer.length ca, .slice ab m.servers.length cb, .slice am m.more.length cm] 27 (0, 0)) := by
   rw [hY, Below.heap_setCell _ ⟨w.heap.size + 1, 0, none⟩ _ _ (by simp)]; exact fill8_heap h8'
  have h1'' : Y.heap[w.heap.size + 1]? = some (.cells #[.int .i64 0] 67 (0, 0)) := by
   rw [hY, heap_setCell_same _ (w.heap.size + 1) 0 #[.int .i64 0] 67 _ (by rw [fill8_other (by omega)]; exact h1')]; rfl
  have hB2 : Below w.heap.size w Y := by
   rw [hY]
   refine Below.setCell ?_ (by simp) _
   exact below_fill hB1 (Nat.le_refl _)
  have hYs : Y.heap.size = w1.heap.size := by rw [hY, World.size_setCell, fill8_size]
  have K1 : Lst w.heap.size b1 Y (.slice aa m.answer.length ca) m.answer := by rw [hY]; exact ((L1.fill (by omega)).box (by omega) _ _).lower (by omega)
  have K2 : Lst b1 b2 Y (.slice ab m.servers.length cb) m.servers := by rw [hY]; exact (L2.fill (by omega)).box (by omega) _ _
  have K3 : Lst b2 Y.heap.size Y (.slice am m.more.length cm) m.more := by rw [hYs, hY]; exact (L3.fill (by omega)).box (by omega) _ _
  unfold fill8 at hY
  rw [← hY]
  clear hY x0 x1 x2 x3 x4 x5 x6 x7 xf y0 yf
  obtain ⟨x0, x1, x2, x3, x4, x5, x6, x7⟩ := fill8_cells h8''
  have y0 : Y.cell? ⟨w.heap.size + 1, 0, none⟩ = some (.int .i64 0) := by rw [cellB h1'']; rfl
  refine leaves_cons (f := 102) (args := #[.pointer (some ⟨w.heap.size, 0, none⟩), .pointer (some ⟨w.heap.size + 1, 0, none⟩)]) (by simp) (by simp [go_sem]) ?_
  refine (catch_idle _ _ _).mono ?_
  rintro e u' w'' ⟨rfl, rfl, rfl⟩
  refine ⟨.tuple #[.agg #[.int .i64 m.id, .bool m.reply, .int .i64 m.code, .string m.name, .int .i64 m.ty, .slice aa m.answer.length ca, .slice ab m.servers.length cb, .slice am m.more.length cm], .int .i64 0], by simp [results, Tryz.results57, go_sem, x0, x1, x2, x3, x4, x5, x6, x7, y0], ?_⟩
  rw [hm]
  exact ⟨hB2, _, _, _, b1, b2, rfl, K1, K2, K3, by omega, by omega, by omega⟩
end Go.Proofs.YtefdokkadckbbaaGreatDoor
