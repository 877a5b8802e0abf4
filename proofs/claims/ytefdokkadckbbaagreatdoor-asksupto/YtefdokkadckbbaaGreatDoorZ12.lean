/- R1 N1 N2 R2 R3 -/
import Derived.RangeFuncNested
import Derived.RangeFuncLeaves
import Derived.Test.YtefdokkadckbbaaGreatDoorZ11
import Derived.Shelf.Abstract
import Derived.Shelf.RegionOpen
import Derived.OwnWalkIn
import Derived.TacticsInMore
import Derived.LoopNIn
import Derived.LoopIn
import Derived.OrdersIn
section
namespace Go.Proofs.YtefdokkadckbbaaGreatDoor
open Go.RowKit
structure Stays (B : Nat) (W W' : World) : Prop where
 size : W.heap.size ≤ W'.heap.size
 same : ∀ k, B ≤ k → k < W.heap.size → W'.heap[k]? = W.heap[k]?
theorem Stays.refl (B : Nat) (W : World) : Stays B W W := ⟨Nat.le_refl _, fun _ _ _ => rfl⟩
theorem Stays.trans {B : Nat} {X Y Z : World} (h : Stays B X Y) (k : Stays B Y Z) : Stays B X Z :=
 ⟨Nat.le_trans h.size k.size, fun i hB hi => (k.same i hB (Nat.lt_of_lt_of_le hi h.size)).trans (h.same i hB hi)⟩
theorem Stays.mono {B B' : Nat} {X Y : World} (h : Stays B X Y) (hB : B ≤ B') : Stays B' X Y := ⟨h.size, fun i hi => h.same i (Nat.le_trans hB hi)⟩
theorem stays_of_below {B : Nat} {X Y : World} (h : Below X.heap.size X Y) : Stays B X Y := ⟨h.size, fun k _ hk => h.block k hk⟩
theorem stays_putObj {B l : Nat} (W : World) (o : Obj) (hl : l < B) : Stays B W (W.putObj l o) :=
 ⟨by simp, fun k hB _ => World.putObj_heap_other (by omega)⟩
def Low {β : Type} (B : Nat) (J : β → World → Prop) : Prop := ∀ s W W', J s W → Below B W W' → J s W'
theorem room_none (k : Nat) : Fence.wide.room k := fun d h => by cases h
theorem round_any {m m' : Nat} {P : Program} {l : Nat} {f : FuncId} {tmps : Array Value} {assign body : Code} {w : World} {R : Ending → World → Prop}
  (h : RoundIn Fence.wide m P l f tmps assign body w R) : RoundIn Fence.wide m' P l f tmps assign body w R := ⟨h.1, fun c cs _ => h.2 c cs (room_none _)⟩
theorem round_in {m : Nat} {P : Program} {l l' : Nat} {f : FuncId} {tmps : Array Value} {assign body : Code} {w : World} {R : Ending → World → Prop}
  (h : RoundIn Fence.wide m P l f tmps assign body w R) : RoundIn (Fence.wide.inRound l') m P l f tmps assign body w R := h
theorem Low.mono {β : Type} {B B' : Nat} {J : β → World → Prop} (h : Low B J) (hB : B ≤ B') : Low B' J := fun s W W' hs hb => h s W W' hs (hb.mono hB)
def Yields (P : Program) (l : Nat) (args : Array Value) (W : World) (R : Ending → World → Prop) : Prop :=
 ∃ fn tmps assign body, (Instr.yield l args).run P W = .ok (.round l fn tmps assign body) W ∧ ∀ m, RoundIn Fence.wide m P l fn tmps assign body W R
theorem Yields.mono {P : Program} {l : Nat} {args : Array Value} {W : World} {R R' : Ending → World → Prop} (h : Yields P l args W R) (hr : ∀ e w, R e w → R' e w) : Yields P l args W R' := by
 obtain ⟨fn, tmps, assign, body, hy, hR⟩ := h
 exact ⟨fn, tmps, assign, body, hy, fun m => (hR m).mono hr⟩
def Iter {α : Type} (P : Program) (g : Nat) (fa lb : Array Value) (encs : α → Array Value) (xs : List α) (w : World) : Prop :=
 ∀ (l : Nat) (J : List α → Prop) (Jx : List α → World → Prop) (W : World), Below w.heap.size w W → Low W.heap.size Jx →
  (∀ (pre : List α) (x : α) (rest : List α) (W1 : World), xs = pre ++ x :: rest → J pre → Below W.heap.size W W1 → Yields P l (encs x) W1 fun e W' =>
   (e = .returned (.bool true) ∧ J (pre ++ [x]) ∧ Below W1.heap.size W1 W') ∨ (e = .returned (.bool false) ∧ Jx (pre ++ [x]) W' ∧ Stays W.heap.size W1 W')) →
  J [] → ∀ n, CallsIn Fence.wide n P g (fa ++ #[.func (.yield l) #[] #[]] ++ lb) W fun e W' => (∃ v, e = .returned v) ∧
   ((J xs ∧ Below W.heap.size W W') ∨ (∃ pre, pre <+: xs ∧ Jx pre W'))
theorem Iter.later {α : Type} {P : Program} {g : Nat} {fa lb : Array Value} {encs : α → Array Value} {xs : List α} {w w' : World} (h : Iter P g fa lb encs xs w) (hb : Below w.heap.size w w') : Iter P g fa lb encs xs w' :=
 fun l J Jx W hW hJx hY h0 n => h l J Jx W (hb.trans (hW.mono hb.size)) hJx hY h0 n
def roundOut {α : Type} (B : Nat) (I : List α → Prop) (Ix : Code → List α → World → Prop) (xs : List α) (W : World) : Exit → Act → World → Prop
 | .normal, _, W' => Below W.heap.size W W' ∧ I xs
 | .ret, _, W' => Stays B W W' ∧ Ix .ret xs W'
 | .exit id, _, W' => Stays B W W' ∧ Ix (.exit id) xs W'
 | .goto t, _, W' => Stays B W W' ∧ Ix (.goto t) xs W'
 | .panic _, _, _ => False
 | .outgrown, _, _ => False
theorem low_putObj {β : Type} {B : Nat} {J : β → World → Prop} (h : Low B J) {s : β} {W : World} {l : Nat} (o : Obj) (hl : B ≤ l) (hs : J s W) : J s (W.putObj l o) :=
 h s W _ hs ⟨rfl, rfl, rfl, by simp, fun k hk => World.putObj_heap_other (by omega)⟩
theorem below_put {B D : Nat} {w W : World} (h : Below B w W) (hD : B ≤ D) (o : Obj) : Below B w (W.putObj D o) :=
 h.trans ⟨rfl, rfl, rfl, by simp, fun k hk => World.putObj_heap_other (by omega)⟩
theorem range_iterA {α : Type} {n : Nat} {P : Program} {g : Operand} {ps : Array Tmp} {assign body : Code} {Q : Exit → Act → World → Prop} {a : Act} {w : World}
  {gf : Nat} {fa lb : Array Value} (hg : a.eval g = .func (.func gf) fa lb) (eg : ∀ args w, (callFunc gf args).run P w = .ok (.enter gf args) w)
  {encs : α → Array Value} {xs : List α} {w0 : World} (hseq : Iter P gf fa lb encs xs w0) (hb0 : Below w0.heap.size w0 w) (hps : ∀ x, (encs x).size = ps.size)
  (I : List α → Prop) (Ix : Code → List α → World → Prop) (hIx : ∀ c, Low w.heap.size (Ix c)) (h0 : I []) (Ax : α → Act → World → Prop)
  (hAx : ∀ x a' W W', Ax x a' W → (∀ k, w.heap.size + 2 ≤ k → W'.heap[k]? = W.heap[k]?) → Ax x a' W')
  (hassign : ∀ (l : Nat) (x : α) (W : World) (K : Act → World → Prop), w.heap.size + 2 ≤ W.heap.size → (∀ a' W', Below W.heap.size W W' → Ax x a' W' → K a' W') →
   assign.wpIn (Fence.wide.inRound l) (n - 1 - 1) P (Exit.then K (fun _ _ _ => False)) { tmps := (ps.zip (encs x)).foldl (fun t (p, v) => t.setIfInBounds p v) a.tmps, defers := [] } W)
  (hbody : ∀ (l : Nat) (pre : List α) (x : α) (rest : List α) (a' : Act) (W : World), xs = pre ++ x :: rest → Below w.heap.size w W → w.heap.size + 2 ≤ W.heap.size → I pre → Ax x a' W → body.wpIn (Fence.wide.inRound l) (n - 1 - 1) P (roundOut w.heap.size I Ix (pre ++ [x]) W) a' W)
  (hdone : ∀ (D : Nat) (W : World), w.heap.size ≤ D → Below w.heap.size w W → I xs → W.heap[D]? = some (.deferred (some [])) → Q .normal { a with defers := { target := .collected D, args := #[] } :: a.defers } W)
  (hstop : ∀ (D : Nat) (c : Code) (pre : List α) (W : World), w.heap.size ≤ D → pre <+: xs → Ix c pre W → W.heap[D]? = some (.deferred (some [])) → c.wpIn Fence.wide n P Q { a with defers := { target := .collected D, args := #[] } :: a.defers } W) :
  (Code.rangeFunc g ps assign body).wpIn Fence.wide n P Q a w := by
 refine wpIn_rangeFunc ?_
 intro fn hfn
 let rc : LoopState → Option Code → Loop := fun st pe => { state := st, pending := pe, fn, tmps := a.tmps, params := ps, assign, body, defers := w.heap.size }
 obtain ⟨W1, hW1⟩ : ∃ W1, (w.alloc (.deferred (some []))).alloc (.loop (rc .ready none)) = W1 := ⟨_, rfl⟩
 have hs1 : W1.heap.size = w.heap.size + 2 := by rw [← hW1]; simp
 have hL1 : W1.heap[w.heap.size + 1]? = some (.loop (rc .ready none)) := by
  rw [← hW1]; have := World.alloc_heap_new (w.alloc (.deferred (some []))) (.loop (rc .ready none)); rwa [World.size_alloc] at this
 have hK1 : W1.heap[w.heap.size]? = some (.deferred (some [])) := by
  rw [← hW1]; exact (Below.heap_alloc _ _ _ (by simp)).trans (World.alloc_heap_new w _)
 have hB1 : Below w.heap.size w W1 := by
  rw [← hW1]; exact ((Below.refl _ w).alloc (Nat.le_refl _) _).alloc (by simp) _
 refine ⟨w.heap.size + 1, [{ target := .collected w.heap.size, args := #[] }], W1, { target := .fn (.func gf) lb, args := fa ++ #[.func (.yield (w.heap.size + 1)) #[] #[]] }, W1, gf,
  fa ++ #[.func (.yield (w.heap.size + 1)) #[] #[]] ++ lb, W1, ?_, ?_, fun _ _ => trivial, ?_, fun h => (by cases h), ?_⟩
 ·rw [← hW1]; exact run_enterLoop_outer _ _ _ _ _
 ·simp only [resolve, hg]
  simp [go_sem]
 ·simp [invoke, go_sem, eg]
 ·refine (hseq (w.heap.size + 1) I
   (fun pre W => ∃ c, Ix c pre W ∧ W.heap[w.heap.size + 1]? = some (.loop (rc .done (some c))) ∧ W.heap[w.heap.size]? = some (.deferred (some [])))
   W1 (hb0.trans (hB1.mono hb0.size)) ?_ ?_ h0 (n - 1)).mono ?_
  ·rintro s A B ⟨c, hc, hl, hk⟩ hbe
   exact ⟨c, hIx c s A B hc (hbe.mono (by omega)), (hbe.block _ (by omega)).trans hl, (hbe.block _ (by omega)).trans hk⟩
  ·
   rintro pre x rest W hxs hi hbW
   have hsW : w.heap.size + 2 ≤ W.heap.size := by have := hbW.size; omega
   have hlW : W.heap[w.heap.size + 1]? = some (.loop (rc .ready none)) := (hbW.block _ (by omega)).trans hL1
   have hy := run_yield (P := P) (args := encs x) hlW (hps x)
   refine ⟨fn, _, assign, body, hy, fun m => round_any (m := n - 1 - 1) (roundIn_of_wpIn trivial (hassign _ x W _ hsW ?_))⟩
   intro a' Wa hba hax
   have hl : Wa.heap[w.heap.size + 1]? = some (.loop (rc .ready none)) := (hba.block _ (by omega)).trans hlW
   have hk : Wa.heap[w.heap.size]? = some (.deferred (some [])) := (hba.block _ (by omega)).trans ((hbW.block _ (by omega)).trans hK1)
   have hlt : w.heap.size + 1 < Wa.heap.size := (Array.getElem?_eq_some_iff.1 hl).1
   have hba' := hba.size
   refine ⟨_, run_beginRound hl rfl, ?_⟩
   have hb2 : Below w.heap.size w (Wa.putObj (w.heap.size + 1) (.loop { rc .ready none with state := .busy })) :=
    below_put ((hB1.trans (hbW.mono hB1.size)).trans (hba.mono (by omega))) (by omega) _
   refine wpIn_mono (hbody _ pre x rest a' _ hxs hb2 (by simp; omega) hi (hAx x a' Wa _ hax (fun k hk' => World.putObj_heap_other (by omega)))) ?_
   have hl2 : (Wa.putObj (w.heap.size + 1) (.loop { rc .ready none with state := .busy })).heap[w.heap.size + 1]? = some (.loop { rc .ready none with state := .busy }) := World.putObj_heap_same hlt
   have hk2 : (Wa.putObj (w.heap.size + 1) (.loop { rc .ready none with state := .busy })).heap[w.heap.size]? = some (.deferred (some [])) := (World.putObj_heap_other (by omega)).trans hk
   have out : ∀ (c : Code) (W3 : World), Stays w.heap.size (Wa.putObj (w.heap.size + 1) (.loop { rc .ready none with state := .busy })) W3 → Ix c (pre ++ [x]) W3 →
     ∃ v w', (Instr.endRound (w.heap.size + 1) (some c)).run P W3 = .ok v w' ∧
      ((Ending.returned v = .returned (.bool true) ∧ I (pre ++ [x]) ∧ Below W.heap.size W w') ∨ (Ending.returned v = .returned (.bool false) ∧
       (∃ c, Ix c (pre ++ [x]) w' ∧ w'.heap[w.heap.size + 1]? = some (.loop (rc .done (some c))) ∧ w'.heap[w.heap.size]? = some (.deferred (some []))) ∧ Stays W1.heap.size W w')) := by
    intro c W3 hk3 hx3
    have hl3 := (hk3.same _ (by omega) (by simp; omega)).trans hl2
    have hd3 := (hk3.same _ (Nat.le_refl _) (by simp; omega)).trans hk2
    have hlt3 : w.heap.size + 1 < W3.heap.size := (Array.getElem?_eq_some_iff.1 hl3).1
    refine ⟨_, _, run_endRound (P := P) (some c) hl3, .inr ⟨rfl, ⟨c, low_putObj (hIx c) _ (by omega) hx3, World.putObj_heap_same hlt3, (World.putObj_heap_other (by omega)).trans hd3⟩, ?_⟩⟩
    exact (stays_of_below hba).trans (((stays_putObj Wa _ (by omega)).trans (hk3.mono (by omega))).trans (stays_putObj W3 _ (by omega)))
   rintro e a3 W3 hp
   cases e with
   | normal =>
    obtain ⟨hk3, hi3⟩ := hp
    have hl3 := (hk3.block _ (by simp; omega)).trans hl2
    have hlt3 : w.heap.size + 1 < W3.heap.size := (Array.getElem?_eq_some_iff.1 hl3).1
    refine ⟨_, _, run_endRound (P := P) none hl3, .inl ⟨rfl, hi3, hk3.os.trans hba.os, hk3.tape.trans hba.tape, hk3.output.trans hba.output, ?_, ?_⟩⟩
    ·have := hk3.size; simp at this ⊢; omega
    ·intro k hk'
     by_cases e : k = w.heap.size + 1
     ·subst e
      rw [World.putObj_heap_same hlt3]
      exact hlW.symm
     ·rw [World.putObj_heap_other e]
      exact (hk3.block k (by simp; omega)).trans ((World.putObj_heap_other e).trans (hba.block k hk'))
   | ret => exact out _ W3 hp.1 hp.2
   | exit id => exact out _ W3 hp.1 hp.2
   | goto t => exact out _ W3 hp.1 hp.2
   | panic ch => exact hp.elim
   | outgrown => exact hp.elim
  ·
   rintro e W2 ⟨⟨v, rfl⟩, (⟨hi, hbe⟩ | ⟨pre, hpre, c, hi, hl, hk⟩)⟩
   ·have hl := (hbe.block (w.heap.size + 1) (by omega)).trans hL1
    have hk := (hbe.block w.heap.size (by omega)).trans hK1
    refine ⟨none, _, run_endLoop (P := P) hl (by simp [rc]), hdone w.heap.size _ (Nat.le_refl _) ?_ hi ((World.putObj_heap_other (by omega)).trans hk)⟩
    exact below_put (hB1.trans (hbe.mono hB1.size)) (by omega) _
   ·exact ⟨some c, _, run_endLoop (P := P) hl (by simp [rc]), hstop w.heap.size c pre _ (Nat.le_refl _) hpre (low_putObj (hIx c) _ (by omega) hi) ((World.putObj_heap_other (by omega)).trans hk)⟩
theorem range_iter {α : Type} {n : Nat} {P : Program} {g : Operand} {ps : Array Tmp} {assign body : Code} {Q : Exit → Act → World → Prop} {a : Act} {w : World}
  {gf : Nat} {fa lb : Array Value} (hg : a.eval g = .func (.func gf) fa lb) (eg : ∀ args w, (callFunc gf args).run P w = .ok (.enter gf args) w)
  {encs : α → Array Value} {xs : List α} {w0 : World} (hseq : Iter P gf fa lb encs xs w0) (hb0 : Below w0.heap.size w0 w) (hps : ∀ x, (encs x).size = ps.size)
  (I : List α → Prop) (Ix : Code → List α → World → Prop) (hIx : ∀ c, Low w.heap.size (Ix c)) (h0 : I []) (a₁ : α → Act)
  (hassign : ∀ (l : Nat) (x : α) (W : World) (K : Act → World → Prop), K (a₁ x) W →
   assign.wpIn (Fence.wide.inRound l) (n - 1 - 1) P (Exit.then K (fun _ _ _ => False)) { tmps := (ps.zip (encs x)).foldl (fun t (p, v) => t.setIfInBounds p v) a.tmps, defers := [] } W)
  (hbody : ∀ (l : Nat) (pre : List α) (x : α) (rest : List α) (W : World), xs = pre ++ x :: rest → Below w.heap.size w W → w.heap.size + 2 ≤ W.heap.size → I pre → body.wpIn (Fence.wide.inRound l) (n - 1 - 1) P (roundOut w.heap.size I Ix (pre ++ [x]) W) (a₁ x) W)
  (hdone : ∀ (D : Nat) (W : World), w.heap.size ≤ D → Below w.heap.size w W → I xs → W.heap[D]? = some (.deferred (some [])) → Q .normal { a with defers := { target := .collected D, args := #[] } :: a.defers } W)
  (hstop : ∀ (D : Nat) (c : Code) (pre : List α) (W : World), w.heap.size ≤ D → pre <+: xs → Ix c pre W → W.heap[D]? = some (.deferred (some [])) → c.wpIn Fence.wide n P Q { a with defers := { target := .collected D, args := #[] } :: a.defers } W) :
  (Code.rangeFunc g ps assign body).wpIn Fence.wide n P Q a w :=
 range_iterA hg eg hseq hb0 hps I Ix hIx h0 (fun x a' _ => a' = a₁ x) (fun _ _ _ _ h _ => h) (fun l x W K _ hK => hassign l x W K (hK _ _ (Below.refl _ _) rfl))
  (fun l pre x rest a' W h1 h2 h3 h4 h5 => by rw [h5]; exact hbody l pre x rest W h1 h2 h3 h4) hdone hstop
theorem range_iterB {α : Type} {n : Nat} {P : Program} {g : Operand} {ps : Array Tmp} {assign body : Code} {Q : Exit → Act → World → Prop} {a : Act} {w : World}
  {gf : Nat} {fa lb : Array Value} (hg : a.eval g = .func (.func gf) fa lb) (eg : ∀ args w, (callFunc gf args).run P w = .ok (.enter gf args) w)
  {encs : α → Array Value} {xs : List α} {w0 : World} (hseq : Iter P gf fa lb encs xs w0) (hb0 : Below w0.heap.size w0 w) (hps : ∀ x, (encs x).size = ps.size)
  (I : List α → Prop) (Ix : Code → List α → World → Prop) (hIx : ∀ c, Low w.heap.size (Ix c)) (h0 : I []) (O : α → Obj) (A : α → Nat → Act)
  (hassign : ∀ (l : Nat) (x : α) (W : World) (K : Act → World → Prop), (∀ W', Below W.heap.size W W' → W'.heap[W.heap.size]? = some (O x) → K (A x W.heap.size) W') →
   assign.wpIn (Fence.wide.inRound l) (n - 1 - 1) P (Exit.then K (fun _ _ _ => False)) { tmps := (ps.zip (encs x)).foldl (fun t (p, v) => t.setIfInBounds p v) a.tmps, defers := [] } W)
  (hbody : ∀ (l : Nat) (pre : List α) (x : α) (rest : List α) (b : Nat) (W : World), xs = pre ++ x :: rest → Below w.heap.size w W → w.heap.size + 2 ≤ b → W.heap[b]? = some (O x) → I pre → body.wpIn (Fence.wide.inRound l) (n - 1 - 1) P (roundOut w.heap.size I Ix (pre ++ [x]) W) (A x b) W)
  (hdone : ∀ (D : Nat) (W : World), w.heap.size ≤ D → Below w.heap.size w W → I xs → W.heap[D]? = some (.deferred (some [])) → Q .normal { a with defers := { target := .collected D, args := #[] } :: a.defers } W)
  (hstop : ∀ (D : Nat) (c : Code) (pre : List α) (W : World), w.heap.size ≤ D → pre <+: xs → Ix c pre W → W.heap[D]? = some (.deferred (some [])) → c.wpIn Fence.wide n P Q { a with defers := { target := .collected D, args := #[] } :: a.defers } W) :
  (Code.rangeFunc g ps assign body).wpIn Fence.wide n P Q a w :=
 range_iterA hg eg hseq hb0 hps I Ix hIx h0 (fun x a' W => ∃ b, w.heap.size + 2 ≤ b ∧ W.heap[b]? = some (O x) ∧ a' = A x b)
  (fun x a' W W' h hk => by obtain ⟨b, h1, h2, h3⟩ := h; exact ⟨b, h1, (hk b h1).trans h2, h3⟩)
  (fun l x W K hz hK => hassign l x W K (fun W' hb' hh => hK _ _ hb' ⟨_, hz, hh, rfl⟩))
  (fun l pre x rest a' W h1 h2 h3 h4 h5 => by obtain ⟨b, e1, e2, rfl⟩ := h5; exact hbody l pre x rest b W h1 h2 e1 e2 h4) hdone hstop
end Go.Proofs.YtefdokkadckbbaaGreatDoor
end
section
namespace Go.Proofs.YtefdokkadckbbaaGreatDoor
open Go.RowKit Go.Shelf
attribute [local go_sem] Oper.semAt_some
set_option maxRecDepth 100000
def aboves : List (List UInt8) → List ByteArray
 | [] => []
 | _ :: r => mk (dotJoin r) :: aboves r
theorem aboves_length (L : List (List UInt8)) : (aboves L).length = L.length := by
 induction L with
 | nil => rfl
 | cons x r ih => simp [aboves, ih]
theorem aboves_at (L : List (List UInt8)) {k : Nat} (h : k < L.length) : (aboves L)[k]? = some (mk (dotJoin (L.drop (k + 1)))) := by
 induction L generalizing k with
 | nil => simp at h
 | cons x r ih =>
  cases k with
  | zero => simp [aboves]
  | succ k => simp only [aboves, List.getElem?_cons_succ, List.drop_succ_cons]; exact ih (by simpa using h)
theorem aboves_cut (L : List (List UInt8)) {k : Nat} (h : k < L.length) : aboves L = (aboves L).take k ++ mk (dotJoin (L.drop (k + 1))) :: (aboves L).drop (k + 1) := by
 have hk : k < (aboves L).length := by rw [aboves_length]; exact h
 have := aboves_at L h
 rw [List.getElem?_eq_getElem hk] at this
 simp at this
 rw [← this, List.getElem_cons_drop, List.take_append_drop]
theorem aboves_take (L : List (List UInt8)) {k : Nat} (h : k < L.length) : (aboves L).take k ++ [mk (dotJoin (L.drop (k + 1)))] = (aboves L).take (k + 1) := by
 rw [List.take_add_one, aboves_at L h]; rfl
set_option maxHeartbeats 400000 in
theorem Above_any (s : ByteArray) (w : World) :
  Calls Tryz.prog 292 #[.string s] w fun e w' => e = .returned (.func (.func 313) #[] #[.pointer (some ⟨w.heap.size, 0, none⟩)]) ∧ w' = w.alloc (.cells #[.string s] 9) := by
 have hmf : ∀ (fn : Fn) (first cap : Array Value) (w : World), (Instr.makeFunc fn first cap).run Tryz.prog w = .ok (.func fn first cap) w := fun _ _ _ _ => rfl
 go_enter Tryz.func292, Tryz.ntmps292
 go_wp2
 go_ret
 exact ⟨rfl, rfl⟩
theorem strSl_drop {w : World} {v : Value} {xs : List ByteArray} {a : Option Addr} {n c : Nat} (h : StrSl w v xs) (hv : v = .slice a n c) (k : Nat) (hk : k < xs.length) :
  ∃ g o, a = some ⟨g, o, none⟩ ∧ n = xs.length ∧ n ≤ c ∧ StrSl w (.slice (some ⟨g, o + k, none⟩) (n - k) (c - k)) (xs.drop k) := by
 rcases h with ⟨rfl, _⟩ | ⟨g, o, c', rfl, hg, hc, hcell⟩
 ·simp at hk
 ·cases hv
  refine ⟨g, o, rfl, rfl, hc, .inr ⟨g, o + k, c - k, by rw [List.length_drop], hg, by rw [List.length_drop]; omega, fun j x hj => ?_⟩⟩
  rw [List.getElem?_drop] at hj
  have := hcell _ _ hj
  rwa [← Nat.add_assoc] at this
theorem strSl_more {w : World} {xs : List ByteArray} {g o c k : Nat} (h : StrSl w (.slice (some ⟨g, o, none⟩) xs.length c) xs) (hk : k < xs.length) :
  StrSl w (.slice (some ⟨g, o + (k + 1), none⟩) (xs.length - (k + 1)) (c - (k + 1))) (xs.drop (k + 1)) ∧ (c = k + 1 → StrSl w (.slice (some ⟨g, o, none⟩) (xs.length - (k + 1)) 0) (xs.drop (k + 1))) := by
 rcases h with ⟨rfl, _⟩ | ⟨g', o', c', hv, hg, hc, hcell⟩
 ·simp at hk
 ·cases hv
  refine ⟨.inr ⟨g, o + (k + 1), c - (k + 1), by rw [List.length_drop], hg, by rw [List.length_drop]; omega, fun j x hj => ?_⟩, fun e => .inr ⟨g, o, 0, by rw [List.length_drop], hg, by rw [List.length_drop]; omega, fun j x hj => ?_⟩⟩
  ·rw [List.getElem?_drop] at hj
   have := hcell _ _ hj
   rwa [← Nat.add_assoc] at this
  ·rw [List.getElem?_drop] at hj
   have := (List.getElem?_eq_some_iff.1 hj).1
   omega
theorem nameOk_labs {s : List UInt8} (h : nameOk s = true) : (labs s).length ≤ 5 := by
 unfold nameOk at h; simp at h; exact h.1
theorem nameOk_labs6 {s : List UInt8} (h : nameOk s = true) : ∀ x ∈ labs s, x.length ≤ 6 := by
 unfold nameOk labOk at h; simp at h; exact fun x hx => (h.2 x hx).1.2
set_option maxHeartbeats 2000000 in
theorem above_iter (s : ByteArray) (w : World) (B : Nat) (hs : nameOk (tl s) = true) (hB : B < w.heap.size) (hc : w.cell? ⟨B, 0, none⟩ = some (.string s)) (hG : Good w) :
  Iter Tryz.prog 313 #[] #[.pointer (some ⟨B, 0, none⟩)] (fun x : ByteArray => #[.string x]) (aboves (labs (tl s))) w := by
 intro l J Jx W hW hJx hY h0 n
 obtain ⟨L, hL⟩ : ∃ L, labs (tl s) = L := ⟨_, rfl⟩
 have h5 : L.length ≤ 5 := by rw [← hL]; exact nameOk_labs hs
 have H5 : Hid (∀ x ∈ L, x.length ≤ 6) := by rw [← hL]; exact nameOk_labs6 hs
 rw [hL] at hY ⊢
 have hcW : W.cell? ⟨B, 0, none⟩ = some (.string s) := (hW.cell (p := ⟨B, 0, none⟩) hB).trans hc
 have hGW := hG.below hW
 have hsz : s.size ≤ 1048576 := by have := nameOk_size _ hs; rw [tl_length] at this; omega
 refine callsIn_of_wp Tryz.func313 rfl trivial ?_ rfl
 simp only [Tryz.ntmps313, List.size_toArray, List.length_cons, List.length_nil, Nat.reduceAdd, Nat.reduceSub, Array.replicate_succ, Array.replicate_zero, List.push_toArray, List.append_toArray, List.nil_append, List.cons_append]
 gi_wp2_with (refine ⟨trivial, fun h => (by cases h), ?_⟩; gi_at_call 180; refine (callsIn_wide.2 (Labels_any s _ hGW hsz)).mono ?_; rintro e w1 ⟨v, ss, rfl, hss, hv, hb1⟩; obtain ⟨a, c, rfl, hcell⟩ := hv.any; clear hcell)
 rw [hL] at hss
 have HLen : Hid (ss.length = L.length) := by show ss.length = L.length; rw [← hss, List.length_map]
 have HL : Hid (ss.map tl = L) := hss
 clear hss hL
 gi_loopw [9] (fun i wr => ∃ k : Nat, i = .int .i64 k ∧ k ≤ ss.length ∧ J ((aboves L).take k) ∧ Below w1.heap.size w1 wr) (fun i _ => ss.length - (intOf i).toNat)
 case atStart => exact ⟨0, rfl, Nat.zero_le _, by simpa using h0, Below.refl _ _⟩
 case round =>
  obtain ⟨k, rfl, hk, hJk, hbk⟩ := hrel
  have hB1 : Below W.heap.size W wr := hb1.trans (hbk.mono hb1.size)
  by_cases hlt : k < ss.length
  ·obtain ⟨g, o, rfl, -, hcc, -⟩ := strSl_drop hv rfl k hlt
   have hvr := hv.below hbk
   have hd := strSl_more hvr hlt
   have hNd : (ss.drop (k + 1)).length ≤ 5 := by have := HLen.out; simp; omega
   have h6d : ∀ x ∈ (ss.drop (k + 1)).map tl, x.length ≤ 6 := fun x hx => by
    rw [List.map_drop, HL.out] at hx
    exact H5.out x (List.mem_of_mem_drop hx)
   obtain ⟨nm, HJ, HY⟩ : ∃ nm : ByteArray, Hid (∀ v w2, StrSl w2 v (ss.drop (k + 1)) → Calls Tryz.prog 189 #[v] w2 fun e w' => e = .returned (.string nm) ∧ Below w2.heap.size w2 w') ∧
     Hid (∀ w2, Below wr.heap.size wr w2 → Yields Tryz.prog l #[.string nm] w2 fun e W' =>
      (e = .returned (.bool true) ∧ J ((aboves L).take (k + 1)) ∧ Below w2.heap.size w2 W') ∨ (e = .returned (.bool false) ∧ Jx ((aboves L).take (k + 1)) W' ∧ Stays W.heap.size w2 W')) := by
    refine ⟨mk (dotJoin ((ss.drop (k + 1)).map tl)), fun v w2 h => Join_any v _ w2 h hNd h6d, fun w2 hb2 => ?_⟩
    have hk' : k < L.length := by have := HLen.out; omega
    rw [List.map_drop, HL.out, ← aboves_take L hk']
    exact hY _ _ _ w2 (aboves_cut L hk') hJk (hB1.trans (hb2.mono hB1.size))
   have HD := hd.1
   have HD2 := hd.2
   have hN5 : ss.length ≤ 5 := by rw [HLen.out]; exact h5
   have hlt' : (k : Int) < (ss.length : Int) := by omega
   clear hY hd h6d hvr
   gi_wp2_with (refine ⟨trivial, fun h => (by cases h), ?_⟩; gi_at_call 189; refine (callsIn_wide.2 (HJ.out _ _ (by first | exact HD | exact HD2 (by assumption)))).mono ?_; rintro e w2 ⟨rfl, hb2⟩; obtain ⟨fn, tmps, assign, body, hy, hR⟩ := HY.out w2 hb2)
   all_goals refine ⟨fun h => (by cases h), (hR _).mono ?_⟩
   all_goals rintro e W3 (⟨rfl, hJ3, hk3⟩ | ⟨rfl, hx3, hs3⟩)
   all_goals gi_wp2
   ·have hck : c = k + 1 := by assumption
    rw [← hck]
    go_roundw
    case rel => exact ⟨k + 1, rfl, hlt, hJ3, hbk.trans ((hb2.trans (hk3.mono hb2.size)).mono hbk.size)⟩
    case measure => simp [intOf]; omega
   ·refine bodyPost_ret (results_none rfl _ _ _) rfl ?_
    exact ⟨⟨_, rfl⟩, .inr ⟨_, List.take_prefix _ _, hx3⟩⟩
   ·go_roundw
    case rel => exact ⟨k + 1, rfl, hlt, hJ3, hbk.trans ((hb2.trans (hk3.mono hb2.size)).mono hbk.size)⟩
    case measure => simp [intOf]; omega
   ·refine bodyPost_ret (results_none rfl _ _ _) rfl ?_
    exact ⟨⟨_, rfl⟩, .inr ⟨_, List.take_prefix _ _, hx3⟩⟩
  ·gi_wp2
   go_end0
   have e : (aboves L).take k = aboves L := List.take_of_length_le (by rw [aboves_length]; have := HLen.out; omega)
   exact ⟨⟨_, rfl⟩, .inl ⟨e ▸ hJk, hB1⟩⟩
end Go.Proofs.YtefdokkadckbbaaGreatDoor
end
section
namespace Go.Proofs.YtefdokkadckbbaaGreatDoor
open Go.RowKit Go.Shelf
attribute [local go_sem] Oper.semAt_some
set_option maxRecDepth 100000
set_option maxHeartbeats 400000 in
theorem Upward_any (s : ByteArray) (w : World) :
  Calls Tryz.prog 250 #[.string s] w fun e w' => e = .returned (.func (.func 291) #[] #[.pointer (some ⟨w.heap.size, 0, none⟩)]) ∧ w' = w.alloc (.cells #[.string s] 9) := by
 have hmf : ∀ (fn : Fn) (first cap : Array Value) (w : World), (Instr.makeFunc fn first cap).run Tryz.prog w = .ok (.func fn first cap) w := fun _ _ _ _ => rfl
 go_enter Tryz.func250, Tryz.ntmps250
 go_wp2
 go_ret
 exact ⟨rfl, rfl⟩
set_option maxHeartbeats 2000000 in
theorem upward_iter (s : ByteArray) (w : World) (B : Nat) (hs : nameOk (tl s) = true) (hB : B < w.heap.size) (hc : w.cell? ⟨B, 0, none⟩ = some (.string s)) (hG : Good w) :
  Iter Tryz.prog 291 #[] #[.pointer (some ⟨B, 0, none⟩)] (fun x : ByteArray => #[.string x]) (s :: aboves (labs (tl s))) w := by
 intro l J Jx W hW hJx hY h0 n
 obtain ⟨L, hL⟩ : ∃ L, labs (tl s) = L := ⟨_, rfl⟩
 rw [hL] at hY ⊢
 have hcW : W.cell? ⟨B, 0, none⟩ = some (.string s) := (hW.cell (p := ⟨B, 0, none⟩) hB).trans hc
 have hBW : B < W.heap.size := Nat.lt_of_lt_of_le hB hW.size
 have hGW := hG.below hW
 obtain ⟨W1, hW1⟩ : ∃ W1, W.alloc (.cells #[.func (.yield l) #[] #[]] 156) = W1 := ⟨_, rfl⟩
 have hb1 : Below W.heap.size W W1 := by rw [← hW1]; exact (Below.refl _ _).alloc (Nat.le_refl _) _
 have hy1 : W1.cell? ⟨W.heap.size, 0, none⟩ = some (.func (.yield l) #[] #[]) := by rw [← hW1]; simp
 have hc1 : W1.cell? ⟨B, 0, none⟩ = some (.string s) := (hb1.cell (p := ⟨B, 0, none⟩) hBW).trans hcW
 have hz1 : W.heap.size < W1.heap.size := by rw [← hW1]; simp
 obtain ⟨fn, tmps, assign, body, hy, hR⟩ := hY [] s (aboves L) W1 rfl h0 hb1
 dsimp only at hy
 refine callsIn_of_wp_marks Tryz.func291 rfl trivial ?_ rfl
 simp only [Tryz.ntmps291, List.size_toArray, List.length_cons, List.length_nil, Nat.reduceAdd, Nat.reduceSub, Array.replicate_succ, Array.replicate_zero, List.push_toArray, List.append_toArray, List.nil_append, List.cons_append]
 gi_wp2
 refine ⟨fun h => (by cases h), (hR _).mono ?_⟩
 clear hR hy hW1
 rintro e W2 (⟨rfl, hJ2, hb2⟩ | ⟨rfl, hx2, hs2⟩)
 ·have hc2 : W2.cell? ⟨B, 0, none⟩ = some (.string s) := (hb2.cell (p := ⟨B, 0, none⟩) (Nat.lt_trans hBW hz1)).trans hc1
  have hy2 : W2.cell? ⟨W.heap.size, 0, none⟩ = some (.func (.yield l) #[] #[]) := (hb2.cell (p := ⟨W.heap.size, 0, none⟩) hz1).trans hy1
  have hbW2 : Below W.heap.size W W2 := hb1.trans (hb2.mono hb1.size)
  have hz2 : W.heap.size < W2.heap.size := Nat.lt_of_lt_of_le hz1 hb2.size
  gi_wp2_with (refine ⟨trivial, fun h => (by cases h), ?_⟩; gi_at_call 292; refine (callsIn_wide.2 (Above_any s _)).mono ?_; rintro e w3 ⟨rfl, rfl⟩)
  obtain ⟨W3, hW3⟩ : ∃ W3, W2.alloc (.cells #[.string s] 9) = W3 := ⟨_, rfl⟩
  have hb3 : Below W2.heap.size W2 W3 := by rw [← hW3]; exact (Below.refl _ _).alloc (Nat.le_refl _) _
  have hc3 : W3.cell? ⟨W2.heap.size, 0, none⟩ = some (.string s) := by rw [← hW3]; simp
  have hz3 : W2.heap.size < W3.heap.size := by rw [← hW3]; simp
  have hbW3 : Below W.heap.size W W3 := hbW2.trans (hb3.mono hbW2.size)
  have hy3 : W3.cell? ⟨W.heap.size, 0, none⟩ = some (.func (.yield l) #[] #[]) := (hb3.cell (p := ⟨W.heap.size, 0, none⟩) hz2).trans hy2
  rw [hW3]
  clear hW3
  refine range_iter (gf := 313) (fa := #[]) (lb := #[.pointer (some ⟨W2.heap.size, 0, none⟩)]) rfl (enters_of Tryz.func313 (by kernel_rfl) rfl) (above_iter s W3 W2.heap.size hs hz3 hc3 (hGW.below hbW3)) (Below.refl _ _) (fun _ => rfl)
   (fun pre => J (s :: pre)) (fun c pre W' => c = .ret ∧ Jx (s :: pre) W') (fun c t A B' hs' hb' => ⟨hs'.1, hJx _ A B' hs'.2 (hb'.mono hbW3.size)⟩) hJ2
   (fun x => { tmps := #[.func (.yield l) #[] #[], .pointer (some ⟨B, 0, none⟩), .pointer (some ⟨W.heap.size, 0, none⟩), .string x, .func (.yield l) #[] #[], .string s, .bool true, .bool false, .string s, .func (.func 313) #[] #[.pointer (some ⟨W2.heap.size, 0, none⟩)], .string x, undef, undef, undef, undef], defers := [] }) ?assign ?body ?done ?stop
  case assign =>
   intro l2 x W4 K hK
   gi_wp2
   exact hK
  case body =>
   intro l2 pre x rest W4 hxs hb4 hs4 hI
   have hbW4 : Below W.heap.size W W4 := hbW3.trans (hb4.mono hbW3.size)
   have hy4 : W4.cell? ⟨W.heap.size, 0, none⟩ = some (.func (.yield l) #[] #[]) := (hb4.cell (p := ⟨W.heap.size, 0, none⟩) (Nat.lt_trans hz2 hz3)).trans hy3
   obtain ⟨fn, tmps, assign, body, hy, hR⟩ := hY (s :: pre) x rest W4 (by rw [← hL, hxs]; rfl) hI hbW4
   gi_wp2
   refine ⟨fun h => (by cases h), (round_in (hR _)).mono ?_⟩
   clear hR hy
   rintro e W5 (⟨rfl, hJ5, hb5⟩ | ⟨rfl, hx5, hs5⟩)
   ·gi_wp2
    exact ⟨hb5, hJ5⟩
   ·gi_wp2
    exact ⟨hs5.mono hbW3.size, rfl, hx5⟩
  case done =>
   intro D W4 hD hb4 hI hK
   gi_wp2
   refine ⟨by simp, .inl ⟨_, _, rfl, run_takeDeferred hK, ?_⟩⟩
   exact ⟨_, results_none rfl _ _ _, ⟨_, rfl⟩, .inl ⟨hL ▸ hI, below_put (hbW3.trans (hb4.mono hbW3.size)) (Nat.le_trans hbW3.size hD) _⟩⟩
  case stop =>
   rintro D c pre W4 hD hpre ⟨rfl, hx⟩ hK
   gi_wp2
   refine ⟨by simp, .inl ⟨_, _, rfl, run_takeDeferred hK, ?_⟩⟩
   exact ⟨_, results_none rfl _ _ _, ⟨_, rfl⟩, .inr ⟨s :: pre, by rw [← hL]; exact List.cons_prefix_cons.2 ⟨rfl, hpre⟩, low_putObj hJx _ (Nat.le_trans hbW3.size hD) hx⟩⟩
 ·gi_wp2
  exact ⟨_, results_none rfl _ _ _, ⟨_, rfl⟩, .inr ⟨[s], by simp, hx2⟩⟩
end Go.Proofs.YtefdokkadckbbaaGreatDoor
end
section
namespace Go.Proofs.YtefdokkadckbbaaGreatDoor
open Go.RowKit
theorem stays_set {B b : Nat} (W : World) (h : b < B) (o : Nat) (u : Value) : Stays B W (W.setCell ⟨b, o, none⟩ u) :=
 ⟨by simp, fun k hB _ => Below.heap_setCell W ⟨b, o, none⟩ u k (by simp; omega)⟩
theorem rows_in {P : Program} {row : String} {args : Array Value} {w : World} {R : Value → World → Prop} {l n : Nat} (h : Rows P row args w R) : RowsIn (Fence.wide.inRound l) n P row args w R :=
 fun c cs _ => let ⟨v, w', r, s⟩ := h c cs; ⟨v, w', r, stepsIn_wide.2 s⟩
theorem oper_in {P : Program} {o : Oper} {a : Act} {w : World} {K : Act → World → Prop} {Q : Exit → Act → World → Prop} {l n : Nat} (hd : ∀ c, o.op ≠ .defer c) (h : o.wp P a w K Q) : o.wpIn (Fence.wide.inRound l) n P a w K Q := by
 refine ⟨fun _ _ => trivial, ?_⟩
 rw [Oper.semAt_plain (Fence.wide.inRound l) _ _ hd]
 unfold Oper.wp at h
 generalize (execOp a.eval o).run P w = r at *
 cases r with
 | ok x w' =>
  cases x <;> simp only [Oper.upon, Oper.uponIn] at h ⊢ <;>
   first
    | exact h
    | exact ⟨fun h => (by cases h), CallsIn.inRound l (callsIn_wide.2 h)⟩
    | exact ⟨fun h => (by cases h), rows_in h⟩
 | halt x w' => cases x <;> simp only [Oper.upon, Oper.uponIn] at h ⊢ <;> exact h
theorem any_in {P : Program} {md : Region.Mode} {ops : Array Oper} {Q : Exit → Act → World → Prop} {l n : Nat} (hno : ∀ (i : Nat) (o : Oper), ops[i]? = some o → ∀ c, o.op ≠ .defer c) (hL : ¬ LetsOut Q) :
  ∀ (fuel : Nat) (listed : Array Bool) (a : Act) (w : World), wpAny P md ops Q fuel listed a w → wpAnyIn (Fence.wide.inRound l) n P md ops Q fuel listed a w
 | 0, _, _, _, h => h
 | fuel + 1, listed, a, w, h => by
  refine ⟨h.1, fun i hi => ?_⟩
  have := h.2 i hi
  unfold wpOp at this
  unfold wpOpIn
  cases ho : ops[i]? with
  | none => simp only [ho] at this ⊢; exact any_in hno hL fuel _ _ _ this
  | some o =>
   simp only [ho] at this ⊢
   split at this
   ·rename_i hw
    rw [if_pos hw]
    rcases this with h1 | ⟨_, h1⟩
    ·exact Oper.wpIn_mono (fun a' w' h' => any_in hno hL fuel _ a' w' h') (oper_in (hno i o ho) h1)
    ·exact absurd h1 hL
   ·rename_i hw
    rw [if_neg hw]
    exact ⟨fun _ _ => trivial, any_in hno hL fuel _ _ _ this⟩
def noDefer (ops : Array Oper) : Bool := ops.all fun o => match o.op with | .defer _ => false | _ => true
theorem noDefer_spec {ops : Array Oper} (h : noDefer ops = true) : ∀ (i : Nat) (o : Oper), ops[i]? = some o → ∀ c, o.op ≠ .defer c := by
 intro i o ho c hc
 unfold noDefer at h
 rw [Array.all_eq_true] at h
 obtain ⟨hi, he⟩ := Array.getElem?_eq_some_iff.1 ho
 have := h i hi
 rw [he, hc] at this
 simp at this
theorem region_in {P : Program} {ops : Array Oper} {Q : Exit → Act → World → Prop} {S : World → Prop} {l n id : Nat} {a : Act} {w : World} (hm : P.follows .mixedOrders = true) (hno : noDefer ops = true) (hL : ¬ LetsOut Q) (hS : S w.drew)
  (h : S w.drew → wpAnyH P .any ops Q S ops.size (Array.replicate ops.size false) a w.drew) : (Code.region id ops true).wpIn (Fence.wide.inRound l) n P Q a w :=
 wpIn_region_any hm (any_in (noDefer_spec hno) hL _ _ _ _ (wpAny_of_held _ _ _ _ (h hS)))
end Go.Proofs.YtefdokkadckbbaaGreatDoor
end
section
namespace Go.Proofs.YtefdokkadckbbaaGreatDoor
open Go.RowKit
theorem oper_in0 {P : Program} {o : Oper} {a : Act} {w : World} {K : Act → World → Prop} {Q : Exit → Act → World → Prop} {n : Nat} (hd : ∀ c, o.op ≠ .defer c) (h : o.wp P a w K Q) : o.wpIn Fence.wide n P a w K Q := by
 refine ⟨fun _ _ => trivial, ?_⟩
 rw [Oper.semAt_plain Fence.wide _ _ hd]
 unfold Oper.wp at h
 generalize (execOp a.eval o).run P w = r at *
 cases r with
 | ok x w' =>
  cases x <;> simp only [Oper.upon, Oper.uponIn] at h ⊢ <;>
   first
    | exact h
    | exact ⟨fun h => (by cases h), callsIn_wide.2 h⟩
    | exact ⟨fun h => (by cases h), rows_in (l := 0) h⟩
 | halt x w' => cases x <;> simp only [Oper.upon, Oper.uponIn] at h ⊢ <;> exact h
theorem any_in0 {P : Program} {md : Region.Mode} {ops : Array Oper} {Q : Exit → Act → World → Prop} {n : Nat} (hno : ∀ (i : Nat) (o : Oper), ops[i]? = some o → ∀ c, o.op ≠ .defer c) (hL : ¬ LetsOut Q) :
  ∀ (fuel : Nat) (listed : Array Bool) (a : Act) (w : World), wpAny P md ops Q fuel listed a w → wpAnyIn Fence.wide n P md ops Q fuel listed a w
 | 0, _, _, _, h => h
 | fuel + 1, listed, a, w, h => by
  refine ⟨h.1, fun i hi => ?_⟩
  have := h.2 i hi
  unfold wpOp at this
  unfold wpOpIn
  cases ho : ops[i]? with
  | none => simp only [ho] at this ⊢; exact any_in0 hno hL fuel _ _ _ this
  | some o =>
   simp only [ho] at this ⊢
   split at this
   ·rename_i hw
    rw [if_pos hw]
    rcases this with h1 | ⟨_, h1⟩
    ·exact Oper.wpIn_mono (fun a' w' h' => any_in0 hno hL fuel _ a' w' h') (oper_in0 (hno i o ho) h1)
    ·exact absurd h1 hL
   ·rename_i hw
    rw [if_neg hw]
    exact ⟨fun _ _ => trivial, any_in0 hno hL fuel _ _ _ this⟩
theorem region_in0 {P : Program} {ops : Array Oper} {Q : Exit → Act → World → Prop} {S : World → Prop} {n id : Nat} {a : Act} {w : World} (hm : P.follows .mixedOrders = true) (hno : noDefer ops = true) (hL : ¬ LetsOut Q) (hS : S w.drew)
  (h : S w.drew → wpAnyH P .any ops Q S ops.size (Array.replicate ops.size false) a w.drew) : (Code.region id ops true).wpIn Fence.wide n P Q a w :=
 wpIn_region_any hm (any_in0 (noDefer_spec hno) hL _ _ _ _ (wpAny_of_held _ _ _ _ (h hS)))
def onlyOn (K : Act → World → Prop) : Exit → Act → World → Prop
 | .normal, a, w => K a w
 | _, _, _ => False
theorem region_on {P : Program} {ops : Array Oper} {K : Act → World → Prop} {Q : Exit → Act → World → Prop} {S : World → Prop} {n id : Nat} {a : Act} {w : World} (hm : P.follows .mixedOrders = true) (hno : noDefer ops = true) (hS : S w.drew)
  (h : S w.drew → wpAnyH P .any ops (onlyOn K) S ops.size (Array.replicate ops.size false) a w.drew) : (Code.region id ops true).wpIn Fence.wide n P (Exit.then K Q) a w :=
 Code.wpIn_mono (fun e a w he => by cases e <;> first | exact he | exact False.elim he) (region_in0 hm hno (by rintro ⟨_, _, h⟩; exact h) hS h)
end Go.Proofs.YtefdokkadckbbaaGreatDoor
end
