/- Tk H1 -/
import Derived.OrdersHeld
import Derived.Test.YtefdokkadckbbaaGreatDoorZ04
import Derived.Deep.QuietTactic
import Derived.BigQuiet
section
namespace Go.Proofs.YtefdokkadckbbaaGreatDoor
open Go.RowKit
section
variable {P : Program} {md : Region.Mode} {ops : Array Oper} {Q : Exit → Act → World → Prop} {S : World → Prop} {i : Nat} {oi : Oper} {v : Value} {fuel : Nat} {listed : Array Bool} {a : Act} {w : World}
theorem tkY (hi : ops[i]? = some oi) (hy : YieldsIf P ops S oi v a) (hS : S w) (h : wpAnyH P md ops Q S fuel (listed.setIfInBounds i true) (a.put oi.dst v) w)
  (hs : Region.noSelect ops = true := by kernel_rfl) (hf : Region.free md ops listed i = true := by kernel_rfl) (hr : (Region.ready md ops listed).contains i = true := by kernel_rfl) (hQ : ∀ c a w, Q (.panic c) (a.put oi.dst v) w → Q (.panic c) a w := by exact fun _ _ _ h => h) : wpAnyH P md ops Q S (fuel + 1) listed a w :=
 wpAnyH_take hi hs hf hr hQ hy hS h
theorem tkS (hi : ops[i]? = some oi) (hS : S w) (h : wpAnyH P md ops Q S fuel (listed.setIfInBounds i true) (a.put oi.dst v) w)
  (hs : Region.noSelect ops = true := by kernel_rfl) (hf : Region.free md ops listed i = true := by kernel_rfl) (hr : (Region.ready md ops listed).contains i = true := by kernel_rfl) (hQ : ∀ c a w, Q (.panic c) (a.put oi.dst v) w → Q (.panic c) a w := by exact fun _ _ _ h => h) (hy : YieldsIf P ops S oi v a := by exact Or.inl ⟨by rfl, fun w' hw => by go_simp⟩) : wpAnyH P md ops Q S (fuel + 1) listed a w :=
 wpAnyH_take hi hs hf hr hQ hy hS h
theorem tkI (hi : ops[i]? = some oi) (hS : S w) (h : wpAnyH P md ops Q S fuel (listed.setIfInBounds i true) (a.put oi.dst v) w)
  (hs : Region.noSelect ops = true := by kernel_rfl) (hf : Region.free md ops listed i = true := by kernel_rfl) (hr : (Region.ready md ops listed).contains i = true := by kernel_rfl) (hQ : ∀ c a w, Q (.panic c) (a.put oi.dst v) w → Q (.panic c) a w := by exact fun _ _ _ h => h) (hy : YieldsIf P ops S oi v a := by exact Or.inl ⟨by rfl, fun w hw => by go_simp <;> exact IntWalk.i64_in _ (by omega)⟩) : wpAnyH P md ops Q S (fuel + 1) listed a w :=
 wpAnyH_take hi hs hf hr hQ hy hS h
end
end Go.Proofs.YtefdokkadckbbaaGreatDoor
end
section
namespace Go.Proofs.YtefdokkadckbbaaGreatDoor
open Go.RowKit
set_option maxRecDepth 100000
theorem cellB {w : World} {g i : Nat} {cur : Array Value} {t : TypeId} {fr : Nat × Nat} (h : w.heap[g]? = some (.cells cur t fr)) : w.cell? ⟨g, i, none⟩ = cur[i]? := by
 simp [World.cell?, h]
def gaveUp : List PanicEntry := [{ v := .iface 302 (.agg #[]), recovered := false }]
def Rd (R : Nat) (s : ByteArray) (n : Nat) (w : World) : Prop := w.heap[R]? = some (.cells #[.string s, .int .i64 (n : Int)] 188 (0, 0))
structure Only (R : Nat) (w w' : World) : Prop where
 os : w'.os = w.os
 tape : w'.tape = w.tape
 output : w'.output = w.output
 size : w.heap.size ≤ w'.heap.size
 block : ∀ k, k < w.heap.size → k ≠ R → w'.heap[k]? = w.heap[k]?
theorem Only.refl (R : Nat) (w : World) : Only R w w := ⟨rfl, rfl, rfl, Nat.le_refl _, fun _ _ _ => rfl⟩
theorem Only.trans {R : Nat} {a b c : World} (h : Only R a b) (k : Only R b c) : Only R a c :=
 ⟨k.os.trans h.os, k.tape.trans h.tape, k.output.trans h.output, Nat.le_trans h.size k.size, fun i hi hne => (k.block i (Nat.lt_of_lt_of_le hi h.size) hne).trans (h.block i hi hne)⟩
theorem Only.ofBelow {R : Nat} {w w' : World} (h : Below w.heap.size w w') : Only R w w' := ⟨h.os, h.tape, h.output, h.size, fun k hk _ => h.block k hk⟩
theorem Only.drewN {R : Nat} {a w : World} (h : Only R a w) (n : Nat) : Only R a (w.drewN n) := h.trans ⟨rfl, rfl, rfl, Nat.le_refl _, fun _ _ _ => rfl⟩
theorem Only.drew {R : Nat} {a w : World} (h : Only R a w) : Only R a w.drew := h.trans ⟨rfl, rfl, rfl, Nat.le_refl _, fun _ _ _ => rfl⟩
theorem Only.set {R : Nat} {a w : World} (h : Only R a w) (k : Nat) (v : Value) : Only R a (w.setCell ⟨R, k, none⟩ v) :=
 h.trans ⟨rfl, rfl, rfl, by simp, fun i _ hne => Below.heap_setCell w ⟨R, k, none⟩ v i hne⟩
theorem Only.alloc {R : Nat} {a w : World} (h : Only R a w) (o : Obj) : Only R a (w.alloc o) := h.trans (Only.ofBelow ((Below.refl _ _).alloc (Nat.le_refl _) o))
theorem Only.below {R B : Nat} {a w w' : World} (hb : Below B a w) (h : Only R w w') (hR : B ≤ R) (hB : B ≤ a.heap.size) : Below B a w' :=
 hb.trans ⟨h.os, h.tape, h.output, h.size, fun k hk => h.block k (Nat.lt_of_lt_of_le hk (Nat.le_trans hB hb.size)) (by omega)⟩
theorem Rd.cells {R : Nat} {s : ByteArray} {n : Nat} {w : World} (h : Rd R s n w) : w.cell? ⟨R, 0, none⟩ = some (.string s) ∧ w.cell? ⟨R, 1, none⟩ = some (.int .i64 (n : Int)) ∧ w.frozen? ⟨R, 1, none⟩ = false :=
 ⟨by rw [cellB h]; rfl, by rw [cellB h]; rfl, frozen_of_row w R 1 _ 188 h⟩
theorem Rd.set {R : Nat} {s : ByteArray} {n m : Nat} {w : World} (h : Rd R s n w) : Rd R s m (w.setCell ⟨R, 1, none⟩ (.int .i64 (m : Int))) := by
 unfold Rd
 rw [heap_setCell_same w R 1 _ 188 _ h]; rfl
theorem Rd.drewN {R : Nat} {s : ByteArray} {n : Nat} {w : World} (h : Rd R s n w) (k : Nat) : Rd R s n (w.drewN k) := h
theorem Rd.drew {R : Nat} {s : ByteArray} {n : Nat} {w : World} (h : Rd R s n w) : Rd R s n w.drew := h
theorem Rd.lt {R : Nat} {s : ByteArray} {n : Nat} {w : World} (h : Rd R s n w) : R < w.heap.size := (Array.getElem?_eq_some_iff.1 h).1
theorem Rd.below {R : Nat} {s : ByteArray} {n : Nat} {w w' : World} (h : Rd R s n w) (hb : Below w.heap.size w w') : Rd R s n w' := by
 unfold Rd; rw [hb.block R h.lt]; exact h
set_option maxHeartbeats 400000 in
theorem must_ok (w : World) : Calls Tryz.prog 137 #[.bool true] w fun e w' => e = .returned (.tuple #[]) ∧ w' = w := by
 go_enter Tryz.func137, Tryz.ntmps137
 go_wp2
 go_end0
 exact ⟨rfl, rfl⟩
set_option maxHeartbeats 400000 in
theorem must_no (w : World) : Calls Tryz.prog 137 #[.bool false] w fun e w' => e = .panicked gaveUp ∧ w' = w := by
 go_enter Tryz.func137, Tryz.ntmps137
 go_wp2
 exact ⟨rfl, rfl, rfl⟩
theorem must_not (b : Bool) (w : World) (h : b = false) : Calls Tryz.prog 137 #[.bool b] w fun e w' => e = .panicked gaveUp ∧ w' = w := by subst h; exact must_no w
theorem must_yes (b : Bool) (w : World) (h : b = true) : Calls Tryz.prog 137 #[.bool b] w fun e w' => e = .returned (.tuple #[]) ∧ w' = w := by subst h; exact must_ok w
set_option maxHeartbeats 1000000 in
theorem oneByte_no (R : Nat) (s : ByteArray) (n : Nat) (w : World) (hr : Rd R s n w) (hn : s.size ≤ n) :
  Calls Tryz.prog 108 #[.pointer (some ⟨R, 0, none⟩)] w fun e w' => e = .panicked gaveUp ∧ Only R w w' := by
 obtain ⟨c0, c1, cf⟩ := hr.cells
 have hlt : decide (n < s.size) = false := decide_eq_false (by omega)
 go_enter Tryz.func108, Tryz.ntmps108
 go_wp2
 refine wp_region_held (S := fun w' => w'.cell? ⟨R, 0, none⟩ = some (.string s) ∧ w'.cell? ⟨R, 1, none⟩ = some (.int .i64 (n : Int))) (by kernel_rfl) ?_
 have hS : (w.drew).cell? ⟨R, 0, none⟩ = some (.string s) ∧ (w.drew).cell? ⟨R, 1, none⟩ = some (.int .i64 (n : Int)) := ⟨c0, c1⟩
 change wpAnyH _ _ _ _ _ _ _ _ (World.drew _)
 refine tkY (i := 0) (v := .pointer (some ⟨R, 0, none⟩)) rfl (Or.inl ⟨by rfl, fun w hw => by obtain ⟨h0, h1⟩ := hw; go_simp⟩) hS ?_
 refine tkY (i := 1) (v := .pointer (some ⟨R, 0, none⟩)) rfl (Or.inl ⟨by rfl, fun w hw => by obtain ⟨h0, h1⟩ := hw; go_simp⟩) hS ?_
 refine tkY (i := 2) (v := .pointer (some ⟨R, 1, none⟩)) rfl (Or.inl ⟨by rfl, fun w hw => by obtain ⟨h0, h1⟩ := hw; go_simp⟩) hS ?_
 refine tkY (i := 3) (v := .int .i64 (n : Int)) rfl (Or.inl ⟨by rfl, fun w hw => by obtain ⟨h0, h1⟩ := hw; go_simp⟩) hS ?_
 refine tkY (i := 4) (v := .pointer (some ⟨R, 0, none⟩)) rfl (Or.inl ⟨by rfl, fun w hw => by obtain ⟨h0, h1⟩ := hw; go_simp⟩) hS ?_
 refine tkY (i := 5) (v := .pointer (some ⟨R, 0, none⟩)) rfl (Or.inl ⟨by rfl, fun w hw => by obtain ⟨h0, h1⟩ := hw; go_simp⟩) hS ?_
 refine tkY (i := 6) (v := .pointer (some ⟨R, 0, none⟩)) rfl (Or.inl ⟨by rfl, fun w hw => by obtain ⟨h0, h1⟩ := hw; go_simp⟩) hS ?_
 refine tkY (i := 7) (v := .string s) rfl (Or.inl ⟨by rfl, fun w hw => by obtain ⟨h0, h1⟩ := hw; go_simp⟩) hS ?_
 refine tkY (i := 8) (v := .int .i64 (s.size : Int)) rfl (Or.inl ⟨by rfl, fun w hw => by obtain ⟨h0, h1⟩ := hw; go_simp⟩) hS ?_
 refine tkY (i := 9) (v := .bool false) rfl (Or.inl ⟨by rfl, fun w hw => by obtain ⟨h0, h1⟩ := hw; go_simp⟩) hS ?_
 refine wpAnyH_ready (rs := [10]) (by kernel_rfl) (by simp) ?_
 refine AllReadyH.cons rfl (fun K hK => ?_) AllReadyH.nil
 go_simp
 refine (must_no _).mono ?_
 rintro e w' ⟨rfl, rfl⟩
 exact ⟨rfl, rfl, (Only.refl R w).drew⟩
set_option maxHeartbeats 1000000 in
theorem oneByte_ok (R : Nat) (s : ByteArray) (n : Nat) (b : UInt8) (w : World) (hr : Rd R s n w) (hs : s.size ≤ 1000) (hb : (tl s)[n]? = some b) :
  Calls Tryz.prog 108 #[.pointer (some ⟨R, 0, none⟩)] w fun e w' => e = .returned (.int .i64 (b.toNat : Int)) ∧ Rd R s (n + 1) w' ∧ Only R w w' := by
 obtain ⟨c0, c1, cf⟩ := hr.cells
 have hlt : n < s.size := (List.getElem?_eq_some_iff.1 hb).1
 have hbe : s[n] = b := (List.getElem?_eq_some_iff.1 hb).2
 have hb8 := b.toNat_lt
 go_enter Tryz.func108, Tryz.ntmps108
 go_wp2
 go_region_held3 (fun w' => w'.cell? ⟨R, 0, none⟩ = some (.string s) ∧ w'.cell? ⟨R, 1, none⟩ = some (.int .i64 (n : Int))) (go_keep)
  (first
   | (go_at_call 137; refine (must_ok _).mono ?_; rintro e w' ⟨rfl, rfl⟩))
 go_wp2
 go_quiet (fail)
 go_wp2
 go_ret
 exact ⟨rfl, (hr.drewN _).set, ((Only.refl R w).drewN _).set _ _⟩
def Res {α : Type} (R : Nat) (s : ByteArray) (w : World) (val : α → Value) (o : Option (α × Nat)) (e : Ending) (w' : World) : Prop :=
 Only R w w' ∧ (match o with | some x => e = .returned (val x.1) ∧ Rd R s x.2 w' | none => e = .panicked gaveUp)
theorem Res.ok {α : Type} {R : Nat} {s : ByteArray} {w : World} {val : α → Value} {o : Option (α × Nat)} {f : FuncId} {args : Array Value} (h : Calls Tryz.prog f args w (Res R s w val o)) {x : α} {n : Nat} (ho : o = some (x, n)) :
  Calls Tryz.prog f args w fun e w' => e = .returned (val x) ∧ Rd R s n w' ∧ Only R w w' := by
 subst ho; exact h.mono fun e w' ⟨h1, h2, h3⟩ => ⟨h2, h3, h1⟩
theorem Res.no {α : Type} {R : Nat} {s : ByteArray} {w : World} {val : α → Value} {o : Option (α × Nat)} {f : FuncId} {args : Array Value} (h : Calls Tryz.prog f args w (Res R s w val o)) (ho : o = none) :
  Calls Tryz.prog f args w fun e w' => e = .panicked gaveUp ∧ Only R w w' := by
 subst ho; exact h.mono fun e w' ⟨h1, h2⟩ => ⟨h2, h1⟩
def byteS (t : List UInt8) (n : Nat) : Option (Int × Nat) := (t[n]?).map fun b => ((b.toNat : Int), n + 1)
theorem byteS_some {t : List UInt8} {n : Nat} {x : Int × Nat} (h : byteS t n = some x) : ∃ b : UInt8, t[n]? = some b ∧ x = ((b.toNat : Int), n + 1) := by
 unfold byteS at h
 cases hb : t[n]? with
 | none => rw [hb] at h; cases h
 | some b => rw [hb] at h; exact ⟨b, rfl, (Option.some.inj h).symm⟩
theorem byteS_bd {t : List UInt8} {n : Nat} {x : Int} {m : Nat} (h : byteS t n = some (x, m)) : 0 ≤ x ∧ x ≤ 255 ∧ m = n + 1 ∧ n < t.length := by
 obtain ⟨b, hb, he⟩ := byteS_some h
 have := b.toNat_lt
 simp only [Prod.mk.injEq] at he
 have := (List.getElem?_eq_some_iff.1 hb).1
 omega
theorem oneByteR (R : Nat) (s : ByteArray) (n : Nat) (w : World) (hr : Rd R s n w) (hs : s.size ≤ 1000) :
  Calls Tryz.prog 108 #[.pointer (some ⟨R, 0, none⟩)] w (Res R s w (Value.int .i64) (byteS (tl s) n)) := by
 cases h : byteS (tl s) n with
 | none =>
  refine (oneByte_no R s n w hr ?_).mono fun e w' ⟨h1, h2⟩ => ⟨h2, h1⟩
  unfold byteS at h
  cases hb : (tl s)[n]? with
  | none => have := List.getElem?_eq_none_iff.1 hb; rw [tl_length] at this; exact this
  | some b => rw [hb] at h; cases h
 | some x =>
  obtain ⟨b, hb, rfl⟩ := byteS_some h
  exact (oneByte_ok R s n b w hr hs hb).mono fun e w' ⟨h1, h2, h3⟩ => ⟨h3, h1, h2⟩
def twoS (t : List UInt8) (n : Nat) : Option (Int × Nat) := (byteS t n).bind fun a => (byteS t a.2).map fun b => (a.1 + b.1 * 256, b.2)
set_option maxHeartbeats 1000000 in
theorem twoBytesR (R : Nat) (s : ByteArray) (n : Nat) (w : World) (hr : Rd R s n w) (hs : s.size ≤ 1000) :
  Calls Tryz.prog 107 #[.pointer (some ⟨R, 0, none⟩)] w (Res R s w (Value.int .i64) (twoS (tl s) n)) := by
 cases h0 : byteS (tl s) n with
 | none =>
  rw [show twoS (tl s) n = none by simp [twoS, h0]]
  go_enter Tryz.func107, Tryz.ntmps107
  go_wp2_with fail
  refine (Res.no (oneByteR R s n _ hr hs) h0).mono ?_
  rintro e w1 ⟨rfl, o1⟩
  exact ⟨rfl, o1, rfl⟩
 | some x =>
  obtain ⟨a, m⟩ := x
  have hx := byteS_bd h0
  cases h1 : byteS (tl s) m with
  | none =>
   rw [show twoS (tl s) n = none by simp [twoS, h0, h1]]
   go_enter Tryz.func107, Tryz.ntmps107
   go_wp2_with fail
   refine (Res.ok (oneByteR R s n _ hr hs) h0).mono ?_
   rintro e w1 ⟨rfl, r1, o1⟩
   go_wp2_with fail
   refine (Res.no (oneByteR R s m _ r1 hs) h1).mono ?_
   rintro e w2 ⟨rfl, o2⟩
   exact ⟨rfl, o1.trans o2, rfl⟩
  | some y =>
   obtain ⟨b, m'⟩ := y
   have hy := byteS_bd h1
   rw [show twoS (tl s) n = some (a + b * 256, m') by simp [twoS, h0, h1]]
   go_enter Tryz.func107, Tryz.ntmps107
   go_wp2_with fail
   refine (Res.ok (oneByteR R s n _ hr hs) h0).mono ?_
   rintro e w1 ⟨rfl, r1, o1⟩
   go_wp2_with fail
   refine (Res.ok (oneByteR R s m _ r1 hs) h1).mono ?_
   rintro e w2 ⟨rfl, r2, o2⟩
   go_wp2
   go_ret
   exact ⟨o1.trans o2, rfl, r2⟩
def numS (t : List UInt8) (lo hi : Int) (n : Nat) : Option (Int × Nat) := (byteS t n).bind fun a => if lo ≤ a.1 ∧ a.1 ≤ hi then some a else none
set_option maxHeartbeats 1000000 in
theorem numberR (R : Nat) (s : ByteArray) (n : Nat) (lo hi : Int) (w : World) (hr : Rd R s n w) (hs : s.size ≤ 1000) :
  Calls Tryz.prog 139 #[.pointer (some ⟨R, 0, none⟩), .int .i64 lo, .int .i64 hi] w (Res R s w (Value.int .i64) (numS (tl s) lo hi n)) := by
 cases h0 : byteS (tl s) n with
 | none =>
  rw [show numS (tl s) lo hi n = none by simp [numS, h0]]
  go_enter Tryz.func139, Tryz.ntmps139
  go_wp2_with fail
  refine (Res.no (oneByteR R s n _ hr hs) h0).mono ?_
  rintro e w1 ⟨rfl, o1⟩
  exact ⟨rfl, o1, rfl⟩
 | some x =>
  obtain ⟨a, m⟩ := x
  by_cases hb : lo ≤ a ∧ a ≤ hi
  ·have hd : (decide (lo ≤ a) && decide (a ≤ hi)) = true := by simp [hb]
   rw [show numS (tl s) lo hi n = some (a, m) by simp [numS, h0, hb]]
   go_enter Tryz.func139, Tryz.ntmps139
   go_wp2_with fail
   refine (Res.ok (oneByteR R s n _ hr hs) h0).mono ?_
   rintro e w1 ⟨rfl, r1, o1⟩
   go_wp2_with fail
   refine (between_any _ _ _ _).mono ?_
   rw [hd]
   rintro e w' ⟨rfl, rfl⟩
   go_wp2_with fail
   refine (must_ok _).mono ?_
   rintro e w' ⟨rfl, rfl⟩
   go_wp2
   go_ret
   exact ⟨o1, rfl, r1⟩
  ·have hd : (decide (lo ≤ a) && decide (a ≤ hi)) = false := by rw [Bool.and_eq_false_iff]; simp; omega
   rw [show numS (tl s) lo hi n = none by simp only [numS, h0, Option.bind_some]; rw [if_neg hb]]
   go_enter Tryz.func139, Tryz.ntmps139
   go_wp2_with fail
   refine (Res.ok (oneByteR R s n _ hr hs) h0).mono ?_
   rintro e w1 ⟨rfl, r1, o1⟩
   go_wp2_with fail
   refine (between_any _ _ _ _).mono ?_
   rw [hd]
   rintro e w' ⟨rfl, rfl⟩
   go_wp2_with fail
   refine (must_no _).mono ?_
   rintro e w' ⟨rfl, rfl⟩
   exact ⟨rfl, o1, rfl⟩
def kindS (t : List UInt8) (n : Nat) : Option (Bool × Nat) := (byteS t n).bind fun a => if a.1 = 113 then some (false, a.2) else if a.1 = 114 then some (true, a.2) else none
set_option maxHeartbeats 1000000 in
theorem isReplyR (R : Nat) (s : ByteArray) (n : Nat) (w : World) (hr : Rd R s n w) (hs : s.size ≤ 1000) :
  Calls Tryz.prog 138 #[.pointer (some ⟨R, 0, none⟩)] w (Res R s w Value.bool (kindS (tl s) n)) := by
 cases h0 : byteS (tl s) n with
 | none =>
  rw [show kindS (tl s) n = none by simp [kindS, h0]]
  go_enter Tryz.func138, Tryz.ntmps138
  go_wp2_with fail
  refine (Res.no (oneByteR R s n _ hr hs) h0).mono ?_
  rintro e w1 ⟨rfl, o1⟩
  exact ⟨rfl, o1, rfl⟩
 | some x =>
  obtain ⟨a, m⟩ := x
  by_cases ha : a = 113
  ·rw [show kindS (tl s) n = some (false, m) by simp [kindS, h0, ha]]
   subst ha
   go_enter Tryz.func138, Tryz.ntmps138
   go_wp2_with fail
   refine (Res.ok (oneByteR R s n _ hr hs) h0).mono ?_
   rintro e w1 ⟨rfl, r1, o1⟩
   go_wp2_with (go_at_call 137; refine (must_ok _).mono ?_; rintro e w' ⟨rfl, rfl⟩)
   go_ret
   exact ⟨o1, rfl, r1⟩
  by_cases hb : a = 114
  ·rw [show kindS (tl s) n = some (true, m) by simp [kindS, h0, hb]]
   subst hb
   go_enter Tryz.func138, Tryz.ntmps138
   go_wp2_with fail
   refine (Res.ok (oneByteR R s n _ hr hs) h0).mono ?_
   rintro e w1 ⟨rfl, r1, o1⟩
   go_wp2_with (go_at_call 137; refine (must_ok _).mono ?_; rintro e w' ⟨rfl, rfl⟩)
   go_ret
   exact ⟨o1, rfl, r1⟩
  ·rw [show kindS (tl s) n = none by simp [kindS, h0, ha, hb]]
   have d1 : (a == 113) = false := by simpa using ha
   have d2 : (a == 114) = false := by simpa using hb
   go_enter Tryz.func138, Tryz.ntmps138
   go_wp2_with fail
   refine (Res.ok (oneByteR R s n _ hr hs) h0).mono ?_
   rintro e w1 ⟨rfl, r1, o1⟩
   go_wp2_with fail
   refine (must_no _).mono ?_
   rintro e w' ⟨rfl, rfl⟩
   exact ⟨rfl, o1, rfl⟩
theorem ret_u8 {a b : Int} (h : a = b) : Ending.returned (.int .u8 a) = .returned (.int .u8 b) := by rw [h]
def letS (t : List UInt8) (n : Nat) : Option (Int × Nat) := (byteS t n).bind fun a => if 65 ≤ a.1 ∧ a.1 ≤ 90 then some (a.1 + 32, a.2) else if 97 ≤ a.1 ∧ a.1 ≤ 122 then some a else none
set_option maxHeartbeats 1000000 in
theorem letterR (R : Nat) (s : ByteArray) (n : Nat) (w : World) (hr : Rd R s n w) (hs : s.size ≤ 1000) :
  Calls Tryz.prog 298 #[.pointer (some ⟨R, 0, none⟩)] w (Res R s w (Value.int .u8) (letS (tl s) n)) := by
 cases h0 : byteS (tl s) n with
 | none =>
  rw [show letS (tl s) n = none by simp [letS, h0]]
  go_enter Tryz.func298, Tryz.ntmps298
  go_wp2_with fail
  refine (Res.no (oneByteR R s n _ hr hs) h0).mono ?_
  rintro e w1 ⟨rfl, o1⟩
  exact ⟨rfl, o1, rfl⟩
 | some x =>
  obtain ⟨a, m⟩ := x
  obtain ⟨bx0, bx1, _, _⟩ := byteS_bd h0
  by_cases ha : 65 ≤ a ∧ a ≤ 90
  ·rw [show letS (tl s) n = some (a + 32, m) by simp [letS, h0, ha]]
   obtain ⟨g1, g2⟩ := ha
   go_enter Tryz.func298, Tryz.ntmps298
   go_wp2_with fail
   refine (Res.ok (oneByteR R s n _ hr hs) h0).mono ?_
   rintro e w1 ⟨rfl, r1, o1⟩
   go_wp2
   go_ret
   exact ⟨o1, ret_u8 (by omega), r1⟩
  ·by_cases hb : 97 ≤ a ∧ a ≤ 122
   ·rw [show letS (tl s) n = some (a, m) by simp only [letS, h0, Option.bind_some]; rw [if_neg ha, if_pos hb]]
    obtain ⟨g1, g2⟩ := hb
    have g3 : 90 < a := by omega
    go_enter Tryz.func298, Tryz.ntmps298
    go_wp2_with fail
    refine (Res.ok (oneByteR R s n _ hr hs) h0).mono ?_
    rintro e w1 ⟨rfl, r1, o1⟩
    go_wp2_with (go_at_call 137; refine (must_ok _).mono ?_; rintro e w' ⟨rfl, rfl⟩)
    go_ret
    exact ⟨o1, rfl, r1⟩
   ·rw [show letS (tl s) n = none by simp only [letS, h0, Option.bind_some]; rw [if_neg ha, if_neg hb]]
    rcases (show a < 65 ∨ (90 < a ∧ a < 97) ∨ 122 < a by omega) with g | ⟨g, g'⟩ | g
    all_goals
     go_enter Tryz.func298, Tryz.ntmps298
     go_wp2_with fail
     refine (Res.ok (oneByteR R s n _ hr hs) h0).mono ?_
     rintro e w1 ⟨rfl, r1, o1⟩
     go_wp2_with fail
     refine (must_not _ _ (by first | rfl | (simp; omega))).mono ?_
     rintro e w' ⟨rfl, rfl⟩
     exact ⟨rfl, o1, rfl⟩
end Go.Proofs.YtefdokkadckbbaaGreatDoor
end
