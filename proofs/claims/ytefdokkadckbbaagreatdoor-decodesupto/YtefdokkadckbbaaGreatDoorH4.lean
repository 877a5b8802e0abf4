/- The reader's labels and labelsBelow. -/
import Derived.Test.YtefdokkadckbbaaGreatDoorH3
import Derived.Deep.LoopGhost
import Derived.Laws.AppendOwnNone
namespace Go.Proofs.YtefdokkadckbbaaGreatDoor
open Go.RowKit
set_option maxRecDepth 100000

/-- What the reader's labels do: labels in new memory, or it gives up. -/
def LRes (R : Nat) (s : ByteArray) (w : World) (o : Option (List (List UInt8) × Nat)) (e : Ending) (w' : World) : Prop :=
  Only R w w' ∧ (match o with | some x => ∃ v ss, e = .returned v ∧ ss.map tl = x.1 ∧ StrSl w' v ss ∧ Rd R s x.2 w' | none => e = .panicked gaveUp)
theorem LRes.ok {R : Nat} {s : ByteArray} {w : World} {o : Option (List (List UInt8) × Nat)} {f : FuncId} {args : Array Value} (h : Calls Tryz.prog f args w (LRes R s w o)) {l : List (List UInt8)} {n : Nat} (ho : o = some (l, n)) :
    Calls Tryz.prog f args w fun e w' => ∃ v ss, e = .returned v ∧ ss.map tl = l ∧ StrSl w' v ss ∧ Rd R s n w' ∧ Only R w w' := by
  subst ho; exact h.mono fun e w' ⟨h1, v, ss, h2, h3, h4, h5⟩ => ⟨v, ss, h2, h3, h4, h5, h1⟩
theorem LRes.no {R : Nat} {s : ByteArray} {w : World} {o : Option (List (List UInt8) × Nat)} {f : FuncId} {args : Array Value} (h : Calls Tryz.prog f args w (LRes R s w o)) (ho : o = none) :
    Calls Tryz.prog f args w fun e w' => e = .panicked gaveUp ∧ Only R w w' := by
  subst ho; exact h.mono fun e w' ⟨h1, h2⟩ => ⟨h2, h1⟩

theorem Only.fresh {R R2 : Nat} {w w1 w2 : World} (h : Only R w w1) (h2 : Only R2 w1 w2) (hR : w.heap.size ≤ R2) : Only R w w2 :=
  ⟨h2.os.trans h.os, h2.tape.trans h.tape, h2.output.trans h.output, Nat.le_trans h.size h2.size, fun k hk hne => (h2.block k (Nat.lt_of_lt_of_le hk h.size) (by omega)).trans (h.block k hk hne)⟩
theorem Rd.only {R R2 : Nat} {s : ByteArray} {n : Nat} {w w' : World} (h : Rd R s n w) (ho : Only R2 w w') (hne : R ≠ R2) : Rd R s n w' := by
  unfold Rd; rw [ho.block R h.lt hne]; exact h
theorem Rd.alloc {R : Nat} {s : ByteArray} {n : Nat} {w : World} (h : Rd R s n w) (o : Obj) : Rd R s n (w.alloc o) := h.below ((Below.refl _ _).alloc (Nat.le_refl _) o)

set_option maxHeartbeats 1000000 in
theorem belowR (R : Nat) (s : ByteArray) (n began : Nat) (w : World) (hr : Rd R s n w) (hs : s.size ≤ 1000)
    (IH : ∀ p, p < began → ∀ R' w', Rd R' s p w' → Calls Tryz.prog 188 #[.pointer (some ⟨R', 0, none⟩)] w' (LRes R' s w' (lblS (tl s) p p))) :
    Calls Tryz.prog 258 #[.pointer (some ⟨R, 0, none⟩), .int .i64 (began : Int)] w (LRes R s w (ptrS (tl s) began n)) := by
  have HI : Hid (∀ p, p < began → ∀ R' w', Rd R' s p w' → Calls Tryz.prog 188 #[.pointer (some ⟨R', 0, none⟩)] w' (LRes R' s w' (lblS (tl s) p p))) := IH
  clear IH
  cases h0 : byteS (tl s) n with
  | none =>
    rw [show ptrS (tl s) began n = none by simp [ptrS, h0]]
    go_enter Tryz.func258, Tryz.ntmps258
    go_wp2_with fail
    refine (Res.no (oneByteR R s n _ hr hs) h0).mono ?_
    rintro e w1 ⟨rfl, o1⟩
    exact ⟨rfl, o1, rfl⟩
  | some x =>
    obtain ⟨a, m⟩ := x
    obtain ⟨bx0, bx1, _, _⟩ := byteS_bd h0
    by_cases hlt : a < (began : Int)
    · have hlt' : a.toNat < began := by omega
      obtain ⟨p, rfl⟩ : ∃ p : Nat, a = p := ⟨a.toNat, by omega⟩
      have e1 : ptrS (tl s) began n = (lblS (tl s) p p).map fun x => (x.1, m) := by
        simp only [ptrS, h0, Option.bind_some]; rw [if_pos hlt']; rfl
      cases h1 : lblS (tl s) p p with
      | none =>
        rw [e1, h1, Option.map_none]
        clear e1
        go_enter Tryz.func258, Tryz.ntmps258
        go_wp2_with fail
        refine (Res.ok (oneByteR R s n _ hr hs) h0).mono ?_
        rintro e w1 ⟨rfl, r1, o1⟩
        obtain ⟨c0, c1, cf⟩ := r1.cells
        go_wp2_with fail
        refine (must_yes _ _ (by first | rfl | (simp; omega))).mono ?_
        rintro e w' ⟨rfl, rfl⟩
        go_wp2_with fail
        refine (LRes.no (HI.out p (by omega) _ _ (heap_alloc_new _ _)) h1).mono ?_
        rintro e w2 ⟨rfl, o2⟩
        exact ⟨rfl, (o1.alloc _).fresh o2 o1.size, rfl⟩
      | some y =>
        obtain ⟨l, m'⟩ := y
        rw [e1, h1, Option.map_some]
        clear e1
        go_enter Tryz.func258, Tryz.ntmps258
        go_wp2_with fail
        refine (Res.ok (oneByteR R s n _ hr hs) h0).mono ?_
        rintro e w1 ⟨rfl, r1, o1⟩
        obtain ⟨c0, c1, cf⟩ := r1.cells
        go_wp2_with fail
        refine (must_yes _ _ (by first | rfl | (simp; omega))).mono ?_
        rintro e w' ⟨rfl, rfl⟩
        go_wp2_with fail
        refine (LRes.ok (HI.out p (by omega) _ _ (heap_alloc_new _ _)) h1).mono ?_
        rintro e w2 ⟨v, ss, rfl, hmap, hsl, r2, o2⟩
        go_wp2
        go_ret
        exact ⟨(o1.alloc _).fresh o2 o1.size, v, ss, rfl, hmap, hsl, (r1.alloc _).only o2 (by have := r1.lt; omega)⟩
    · rw [show ptrS (tl s) began n = none by simp only [ptrS, h0, Option.bind_some]; rw [if_neg (by omega)]]
      go_enter Tryz.func258, Tryz.ntmps258
      go_wp2_with fail
      refine (Res.ok (oneByteR R s n _ hr hs) h0).mono ?_
      rintro e w1 ⟨rfl, r1, o1⟩
      go_wp2_with fail
      refine (must_not _ _ (by first | rfl | (simp; omega))).mono ?_
      rintro e w' ⟨rfl, rfl⟩
      exact ⟨rfl, o1, rfl⟩
end Go.Proofs.YtefdokkadckbbaaGreatDoor
