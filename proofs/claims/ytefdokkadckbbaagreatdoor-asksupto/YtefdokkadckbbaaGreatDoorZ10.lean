/- H2 H3 H4 H5 -/
import Derived.Test.YtefdokkadckbbaaGreatDoorZ05
import Derived.Deep.LoopGhost
import Derived.Laws.AppendOwnNone
section
namespace Go.Proofs.YtefdokkadckbbaaGreatDoor
open Go.RowKit
set_option maxRecDepth 100000
theorem letS_bd {t : List UInt8} {n : Nat} {x : Int} {m : Nat} (h : letS t n = some (x, m)) : 97 ≤ x ∧ x ≤ 122 ∧ m = n + 1 ∧ n < t.length := by
 unfold letS at h
 cases h0 : byteS t n with
 | none => rw [h0] at h; cases h
 | some a =>
  obtain ⟨a, k⟩ := a
  have hb := byteS_bd h0
  rw [h0, Option.bind_some] at h
  simp only at h
  by_cases h1 : 65 ≤ a ∧ a ≤ 90
  ·rw [if_pos h1] at h; simp only [Option.some.injEq, Prod.mk.injEq] at h; omega
  ·rw [if_neg h1] at h
   by_cases h2 : 97 ≤ a ∧ a ≤ 122
   ·rw [if_pos h2] at h; simp only [Option.some.injEq, Prod.mk.injEq] at h; omega
   ·rw [if_neg h2] at h; cases h
def lettersS (t : List UInt8) : Nat → Nat → Option (List UInt8 × Nat)
 | 0, n => some ([], n)
 | k + 1, n => (letS t n).bind fun a => (lettersS t k a.2).map fun l => (UInt8.ofNat a.1.toNat :: l.1, l.2)
def labelS (t : List UInt8) (len : Int) (n : Nat) : Option (List UInt8 × Nat) := if 1 ≤ len ∧ len ≤ 6 then lettersS t len.toNat n else none
def lcells (acc : List UInt8) (m : Nat) : List Value := acc.map (fun b => Value.int .u8 (b.toNat : Int)) ++ List.replicate m (.int .u8 0)
theorem lcells_set (acc : List UInt8) (m : Nat) (x : Int) (hx : 97 ≤ x ∧ x ≤ 122) : (lcells acc (m + 1)).set acc.length (.int .u8 x) = lcells (acc ++ [UInt8.ofNat x.toNat]) m := by
 unfold lcells
 rw [List.set_append_right _ _ (by simp)]
 have e : (((UInt8.ofNat x.toNat).toNat : Nat) : Int) = x := by
  rw [UInt8.toNat_ofNat']; omega
 rw [List.map_append, List.length_map, Nat.sub_self, List.replicate_succ, List.set_cons_zero, List.map_cons, List.map_nil, e]
 simp
theorem _root_.Go.World.ownsRow.only {R : Nat} {w w' : World} {base : Nat} {e : TypeId} {size : Nat} {v : Value} {n : Nat} {xs : List Value} (h : w.ownsRow base e size v n xs) (ho : Only R w w') (hR : R < base) : w'.ownsRow base e size v n xs := by
 obtain ⟨hl, h | ⟨g, cap, cur, hv, hg, hh, r⟩⟩ := h
 ·exact ⟨hl, .inl h⟩
 ·exact ⟨hl, .inr ⟨g, cap, cur, hv, hg, (by rw [ho.block g (Array.getElem?_eq_some_iff.1 hh).1 (by omega)]; exact hh), r⟩⟩
theorem Rd.row {R : Nat} {s : ByteArray} {n : Nat} {w : World} (h : Rd R s n w) {g : Nat} (hne : R ≠ g) (k : Nat) (v : Value) : Rd R s n (w.setCell ⟨g, k, none⟩ v) := by
 unfold Rd; rw [Below.heap_setCell w ⟨g, k, none⟩ v R hne]; exact h
theorem Only.row {R : Nat} {a w : World} (h : Only R a w) {g : Nat} (hg : a.heap.size ≤ g) (k : Nat) (v : Value) : Only R a (w.setCell ⟨g, k, none⟩ v) :=
 ⟨h.os, h.tape, h.output, by simpa using h.size, fun i hi hne => by rw [Below.heap_setCell w ⟨g, k, none⟩ v i (by show i ≠ g; omega)]; exact h.block i hi hne⟩
theorem label_conv (w wr : World) (acc : List UInt8) (cap : Nat) (hown : wr.ownsRow w.heap.size 5 1 (.slice (some ⟨w.heap.size, 0, none⟩) acc.length cap) acc.length (lcells acc 0)) :
  (convert 336 9 (.slice (some ⟨w.heap.size, 0, none⟩) acc.length cap)).run Tryz.prog wr = .ok (.string (mk acc)) wr := by
 refine run_convert_bytes_back wr 336 9 5 ⟨w.heap.size, 0, none⟩ cap acc u137 u5 u9 fun j hj => ?_
 have e : (⟨w.heap.size, 0, none⟩ : Addr).add j = ⟨w.heap.size, j, none⟩ := by unfold Addr.add; split <;> simp_all
 rw [e, hown.cellAt j (by omega)]
 simp [lcells, hj]
theorem info5' : (Tryz.prog.info? 5).map (fun i => (i.zero, i.size, i.bytes)) = some (some (.int .u8 0), 1, 1) := by kernel_rfl
set_option maxHeartbeats 2000000 in
theorem labelR (R : Nat) (s : ByteArray) (n : Nat) (len : Int) (w : World) (hr : Rd R s n w) (hs : s.size ≤ 1000) :
  Calls Tryz.prog 259 #[.pointer (some ⟨R, 0, none⟩), .int .i64 len] w (Res R s w (fun l => Value.string (mk l)) (labelS (tl s) len n)) := by
 by_cases hl : 1 ≤ len ∧ len ≤ 6
 ·obtain ⟨i0, hi, hz0, hz1, hz2⟩ := info_parts info5'
  have hd : (decide (1 ≤ len) && decide (len ≤ 6)) = true := by simp [hl]
  obtain ⟨k, rfl⟩ : ∃ k : Nat, len = k := ⟨len.toNat, by omega⟩
  rw [show labelS (tl s) (k : Int) n = lettersS (tl s) k n by unfold labelS; rw [if_pos hl]; rfl]
  have hRl := hr.lt
  go_enter Tryz.func259, Tryz.ntmps259
  go_wp2_with fail
  refine (between_any _ _ _ _).mono ?_
  rw [hd]
  rintro e w' ⟨rfl, rfl⟩
  go_wp2_with fail
  refine (must_ok _).mono ?_
  rintro e w' ⟨rfl, rfl⟩
  go_wp2_with (at_make; refine wpList_make_full _ rfl _ _ 336 rfl w'.heap.size 5 i0 (.int .u8 0) 1 u137 hi hz0 hz1 _ _ _ _ k rfl rfl rfl rfl ?b2 ?b3 (Nat.le_refl _) ?_)
  case b2 => rw [hz2]; omega
  case b3 => unfold maxLen; omega
  intro w0 hown0 hgrow0
  have hB0 : Below w'.heap.size w' w0 := (Below.refl _ _).grown hgrow0 (Nat.le_refl _) (fun k h => by cases h)
  have hr0 := hr.below hB0
  clear hgrow0
  have hk6 : k ≤ 6 := by omega
  go_wp2
  go_loopw [14] (fun i wr => ∃ (j : Nat) (acc : List UInt8), j ≤ k ∧ acc.length = j ∧ i = .int .i64 j ∧ wr.ownsRow w'.heap.size 5 1 (.slice (some ⟨w'.heap.size, 0, none⟩) k k) k (lcells acc (k - j)) ∧ Rd R s (n + j) wr ∧ Only R w' wr ∧
    lettersS (tl s) k n = (lettersS (tl s) (k - j) (n + j)).map fun x => (acc ++ x.1, x.2)) (fun i _ => k - (intOf i).toNat)
  case atStart => exact ⟨0, [], Nat.zero_le _, rfl, rfl, by rw [toList_madeCells_one] at hown0; exact hown0, hr0, Only.ofBelow hB0, by simp⟩
  case round =>
   obtain ⟨j, acc, hj, hja, rfl, hown, hrd, hon, hsp⟩ := hrel
   have HSP : Hid (lettersS (tl s) k n = (lettersS (tl s) (k - j) (n + j)).map fun x => (acc ++ x.1, x.2)) := hsp
   have HJA : Hid (acc.length = j) := hja
   clear hsp hja
   by_cases hlt : j < k
   ·cases h0 : letS (tl s) (n + j) with
    | none =>
     have HN : Hid (lettersS (tl s) k n = none) := by
      show _ = _
      rw [HSP.out, show k - j = (k - j - 1) + 1 by omega]
      simp [lettersS, h0]
     go_wp2_with fail
     refine (Res.no (letterR R s (n + j) _ hrd hs) h0).mono ?_
     rintro e w1 ⟨rfl, o1⟩
     exact ⟨rfl, by rw [HN.out]; exact ⟨hon.trans o1, rfl⟩⟩
    | some x =>
     obtain ⟨x, m⟩ := x
     obtain ⟨x0, x1, hm, _⟩ := letS_bd h0
     subst hm
     go_wp2_with fail
     refine (Res.ok (letterR R s (n + j) _ hrd hs) h0).mono ?_
     rintro e w1 ⟨rfl, r1, o1⟩
     have hown1 := hown.only o1 hRl
     have hfz := hown1.frozenAt j
     obtain ⟨u, hu⟩ : ∃ u, w1.cell? ⟨w'.heap.size, j, none⟩ = some u := by
      rw [hown1.cellAt j (by omega)]
      exact ⟨_, List.getElem?_eq_getElem (by have := HJA.out; simp [lcells]; omega)⟩
     have HO : Hid ((w1.setCell ⟨w'.heap.size, j, none⟩ (.int .u8 x)).ownsRow w'.heap.size 5 1 (.slice (some ⟨w'.heap.size, 0, none⟩) k k) k (lcells (acc ++ [UInt8.ofNat x.toNat]) (k - (j + 1)))) := by
      have h2 := (hown1.stored j (.int .u8 x)).1
      have e2 : (lcells acc (k - j)).set j (.int .u8 x) = lcells (acc ++ [UInt8.ofNat x.toNat]) (k - (j + 1)) := by
       rw [show k - j = (k - (j + 1)) + 1 by omega, ← HJA.out]
       exact lcells_set acc _ x ⟨x0, x1⟩
      rw [e2] at h2
      exact h2
     have HNX : Hid (lettersS (tl s) k n = (lettersS (tl s) (k - (j + 1)) (n + (j + 1))).map fun y => ((acc ++ [UInt8.ofNat x.toNat]) ++ y.1, y.2)) := by
      show _ = _
      rw [HSP.out, show k - j = (k - (j + 1)) + 1 by omega]
      simp only [lettersS, h0, Option.bind_some]
      rw [show n + (j + 1) = n + j + 1 by omega]
      cases lettersS (tl s) (k - (j + 1)) (n + j + 1) <;> simp
     have HR : Hid (Rd R s (n + (j + 1)) (w1.setCell ⟨w'.heap.size, j, none⟩ (.int .u8 x))) := (show Rd R s (n + (j + 1)) w1 from r1).row (by omega) _ _
     have HOn : Hid (Only R w' (w1.setCell ⟨w'.heap.size, j, none⟩ (.int .u8 x))) := (hon.trans o1).row (Nat.le_refl _) _ _
     clear hown hown1 hrd r1
     go_wp2
     go_roundw
     case rel => exact ⟨j + 1, acc ++ [UInt8.ofNat x.toNat], hlt, by have := HJA.out; simp; omega, by go_num, HO.out, HR.out, HOn.out, HNX.out⟩
     case measure => simp [intOf]; omega
   ·have hjk : j = k := by omega
    have hk0 : k - j = 0 := by omega
    have hal : acc.length = k := by rw [HJA.out]; exact hjk
    have HY : Hid (lettersS (tl s) k n = some (acc, n + j)) := by
     show _ = _
     rw [HSP.out, hk0]; simp [lettersS]
    have hcv : (convert 336 9 (.slice (some ⟨w'.heap.size, 0, none⟩) k k)).run Tryz.prog wr = .ok (.string (mk acc)) wr := by
     rw [hk0] at hown
     have := label_conv w' wr acc k (by rw [hal]; exact hown)
     rw [hal] at this
     exact this
    clear hown hjk hk0 hal
    go_wp2
    go_ret
    rw [HY.out]
    exact ⟨hon, rfl, hrd⟩
 ·have hd : (decide (1 ≤ len) && decide (len ≤ 6)) = false := by rw [Bool.and_eq_false_iff]; simp; omega
  rw [show labelS (tl s) len n = none by unfold labelS; rw [if_neg hl]]
  go_enter Tryz.func259, Tryz.ntmps259
  go_wp2_with fail
  refine (between_any _ _ _ _).mono ?_
  rw [hd]
  rintro e w' ⟨rfl, rfl⟩
  go_wp2_with fail
  refine (must_no _).mono ?_
  rintro e w' ⟨rfl, rfl⟩
  exact ⟨rfl, Only.refl _ _, rfl⟩
end Go.Proofs.YtefdokkadckbbaaGreatDoor
end
section
namespace Go.Proofs.YtefdokkadckbbaaGreatDoor
open Go.RowKit
theorem lettersS_bd {t : List UInt8} : ∀ (k n : Nat) {l : List UInt8} {m : Nat}, lettersS t k n = some (l, m) → m = n + k ∧ l.length = k ∧ l.all low = true ∧ n + k ≤ max n t.length
 | 0, n, l, m, h => by
  simp only [lettersS, Option.some.injEq, Prod.mk.injEq] at h
  obtain ⟨rfl, rfl⟩ := h
  simp; omega
 | k + 1, n, l, m, h => by
  simp only [lettersS] at h
  cases h0 : letS t n with
  | none => rw [h0] at h; cases h
  | some x =>
   obtain ⟨x, m1⟩ := x
   obtain ⟨x0, x1, hm, hn⟩ := letS_bd h0
   rw [h0, Option.bind_some] at h
   simp only at h
   cases h1 : lettersS t k m1 with
   | none => rw [h1] at h; cases h
   | some y =>
    obtain ⟨l', m'⟩ := y
    obtain ⟨e1, e2, e3, e4⟩ := lettersS_bd k m1 h1
    rw [h1] at h
    simp only [Option.map_some, Option.some.injEq, Prod.mk.injEq] at h
    obtain ⟨rfl, rfl⟩ := h
    refine ⟨by omega, by simp [e2], ?_, by omega⟩
    rw [List.all_cons, e3, Bool.and_true]
    unfold low
    refine decide_eq_true ?_
    have : ((UInt8.ofNat x.toNat).toNat : Int) = x := by rw [UInt8.toNat_ofNat']; omega
    omega
theorem labelS_bd {t : List UInt8} {a : Int} {n : Nat} {l : List UInt8} {m : Nat} (h : labelS t a n = some (l, m)) : m = n + a.toNat ∧ labOk l = true ∧ 1 ≤ a ∧ a ≤ 6 ∧ (l.length : Int) = a := by
 unfold labelS at h
 by_cases ha : 1 ≤ a ∧ a ≤ 6
 ·rw [if_pos ha] at h
  obtain ⟨e1, e2, e3, _⟩ := lettersS_bd _ _ h
  refine ⟨e1, ?_, ha.1, ha.2, by omega⟩
  unfold labOk
  rw [e3, Bool.and_true]
  exact decide_eq_true (by omega)
 ·rw [if_neg ha] at h; cases h
def lblF (t : List UInt8) : Nat → Nat → Nat → Option (List (List UInt8) × Nat)
 | 0, _, _ => none
 | f + 1, began, n =>
  match byteS t n with
  | none => none
  | some (a, m) =>
   if a = 0 then some ([], m)
   else if a = 255 then
    match byteS t m with
    | none => none
    | some (p, m2) => if p.toNat < began then (lblF t f p.toNat p.toNat).map fun x => (x.1, m2) else none
   else
    match labelS t a m with
    | none => none
    | some (l, m3) => (lblF t f began m3).map fun x => (l :: x.1, x.2)
def lblM (t : List UInt8) (began n : Nat) : Nat := began * (t.length + 1) + (t.length - n)
theorem lblM_ptr {t : List UInt8} {began n p : Nat} (h : p < began) : lblM t p p < lblM t began n := by
 unfold lblM
 have h1 : (p + 1) * (t.length + 1) ≤ began * (t.length + 1) := Nat.mul_le_mul_right _ h
 rw [Nat.add_mul] at h1
 omega
theorem lblM_lab {t : List UInt8} {began n m m3 : Nat} {a : Int} {l : List UInt8} (h : byteS t n = some (a, m)) (h2 : labelS t a m = some (l, m3)) : lblM t began m3 < lblM t began n := by
 have h1 := byteS_bd h
 have h3 := labelS_bd h2
 unfold lblM
 omega
theorem lblF_eq (t : List UInt8) (f : Nat) : ∀ g began n, lblM t began n < f → lblM t began n < g → lblF t f began n = lblF t g began n := by
 induction f with
 | zero => intro g began n h; omega
 | succ f ih =>
  intro g began n h1 h2
  cases g with
  | zero => omega
  | succ g =>
   simp only [lblF]
   cases hb : byteS t n with
   | none => rfl
   | some x =>
    obtain ⟨a, m⟩ := x
    simp only
    split
    ·rfl
    ·split
     ·cases hc : byteS t m with
      | none => rfl
      | some y =>
       obtain ⟨p, m2⟩ := y
       simp only
       split
       ·rename_i hp
        have := lblM_ptr (t := t) (n := n) hp
        rw [ih g p.toNat p.toNat (by omega) (by omega)]
       ·rfl
     ·cases hl : labelS t a m with
      | none => rfl
      | some y =>
       obtain ⟨l, m3⟩ := y
       have := lblM_lab (began := began) hb hl
       simp only
       rw [ih g began m3 (by omega) (by omega)]
def lblS (t : List UInt8) (began n : Nat) : Option (List (List UInt8) × Nat) := lblF t (lblM t began n + 1) began n
theorem lblS_of {t : List UInt8} {began n f : Nat} (h : lblM t began n < f) : lblF t f began n = lblS t began n := lblF_eq t f _ _ _ h (Nat.lt_succ_self _)
theorem lblS_none {t : List UInt8} {began n : Nat} (h : byteS t n = none) : lblS t began n = none := by
 unfold lblS lblF
 rw [h]
theorem lblS_step {t : List UInt8} {began n : Nat} {a : Int} {m : Nat} (h : byteS t n = some (a, m)) : lblS t began n =
  if a = 0 then some ([], m)
  else if a = 255 then
   (match byteS t m with
   | none => none
   | some (p, m2) => if p.toNat < began then (lblS t p.toNat p.toNat).map fun x => (x.1, m2) else none)
  else
   (match labelS t a m with
   | none => none
   | some (l, m3) => (lblS t began m3).map fun x => (l :: x.1, x.2)) := by
 show lblF t (lblM t began n + 1) began n = _
 simp only [lblF, h]
 split
 ·rfl
 ·split
  ·cases hc : byteS t m with
   | none => rfl
   | some y =>
    obtain ⟨p, m2⟩ := y
    simp only
    split
    ·rename_i hp
     rw [lblS_of (lblM_ptr hp)]
    ·rfl
  ·cases hl : labelS t a m with
   | none => rfl
   | some y =>
    obtain ⟨l, m3⟩ := y
    simp only
    rw [lblS_of (lblM_lab h hl)]
theorem lblS_end {t : List UInt8} {began n m : Nat} (h : byteS t n = some (0, m)) : lblS t began n = some ([], m) := by
 rw [lblS_step h, if_pos rfl]
def ptrS (t : List UInt8) (began m : Nat) : Option (List (List UInt8) × Nat) :=
 (byteS t m).bind fun p => if p.1.toNat < began then (lblS t p.1.toNat p.1.toNat).map fun x => (x.1, p.2) else none
theorem lblS_ptr {t : List UInt8} {began n m : Nat} (h : byteS t n = some (255, m)) : lblS t began n = ptrS t began m := by
 rw [lblS_step h, if_neg (by decide), if_pos rfl]
 unfold ptrS
 cases byteS t m with
 | none => rfl
 | some p => rfl
theorem lblS_lab {t : List UInt8} {began n m : Nat} {a : Int} (h : byteS t n = some (a, m)) (h0 : a ≠ 0) (h1 : a ≠ 255) : lblS t began n =
  (labelS t a m).bind fun l => (lblS t began l.2).map fun x => (l.1 :: x.1, x.2) := by
 rw [lblS_step h, if_neg h0, if_neg h1]
 cases labelS t a m with
 | none => rfl
 | some p => rfl
theorem lblS_len (t : List UInt8) (began n : Nat) : ∀ l m, lblS t began n = some (l, m) → l.length ≤ (t.length - n) + began * t.length ∧ l.all labOk = true ∧ n < m ∧ m ≤ t.length := by
 induction began using Nat.strongRecOn generalizing n with
 | _ began ih =>
  generalize hk : t.length - n = k
  induction k using Nat.strongRecOn generalizing n with
  | _ k ih2 =>
   intro l m h
   cases h0 : byteS t n with
   | none => rw [lblS_none h0] at h; cases h
   | some x =>
    obtain ⟨a, m1⟩ := x
    obtain ⟨_, _, hm1, hn⟩ := byteS_bd h0
    by_cases a0 : a = 0
    ·subst a0
     rw [lblS_end h0] at h
     simp only [Option.some.injEq, Prod.mk.injEq] at h
     obtain ⟨rfl, rfl⟩ := h
     exact ⟨by simp, rfl, by omega, by omega⟩
    by_cases a1 : a = 255
    ·subst a1
     rw [lblS_ptr h0] at h
     unfold ptrS at h
     cases hp : byteS t m1 with
     | none => rw [hp] at h; cases h
     | some p =>
      obtain ⟨p, m2⟩ := p
      have hpb := byteS_bd hp
      rw [hp, Option.bind_some] at h
      simp only at h
      by_cases hlt : p.toNat < began
      ·rw [if_pos hlt] at h
       cases hr : lblS t p.toNat p.toNat with
       | none => rw [hr] at h; cases h
       | some y =>
        obtain ⟨l', m'⟩ := y
        obtain ⟨e1, e2, _, _⟩ := ih p.toNat hlt p.toNat l' m' hr
        rw [hr] at h
        simp only [Option.map_some, Option.some.injEq, Prod.mk.injEq] at h
        obtain ⟨rfl, rfl⟩ := h
        refine ⟨?_, e2, by omega, by omega⟩
        have : p.toNat * t.length + t.length ≤ began * t.length := by
         rw [← Nat.succ_mul]; exact Nat.mul_le_mul_right _ hlt
        omega
      ·rw [if_neg hlt] at h; cases h
    ·rw [lblS_lab h0 a0 a1] at h
     cases hl : labelS t a m1 with
     | none => rw [hl] at h; cases h
     | some y =>
      obtain ⟨l1, m3⟩ := y
      have hlb := labelS_bd hl
      rw [hl, Option.bind_some] at h
      simp only at h
      cases hr : lblS t began m3 with
      | none => rw [hr] at h; cases h
      | some z =>
       obtain ⟨l2, m4⟩ := z
       obtain ⟨e1, e2, e3, e4⟩ := ih2 (t.length - m3) (by omega) m3 rfl l2 m4 hr
       rw [hr] at h
       simp only [Option.map_some, Option.some.injEq, Prod.mk.injEq] at h
       obtain ⟨rfl, rfl⟩ := h
       refine ⟨by simp; omega, by rw [List.all_cons, hlb.2.1, e2]; rfl, by omega, e4⟩
end Go.Proofs.YtefdokkadckbbaaGreatDoor
end
section
namespace Go.Proofs.YtefdokkadckbbaaGreatDoor
open Go.RowKit
set_option maxRecDepth 100000
def LRes (R : Nat) (s : ByteArray) (w : World) (o : Option (List (List UInt8) × Nat)) (e : Ending) (w' : World) : Prop :=
 Only R w w' ∧ (match o with | some x => ∃ v ss, e = .returned v ∧ ss.map tl = x.1 ∧ StrSl w' v ss ∧ Rd R s x.2 w' | none => e = .panicked gaveUp)
theorem LRes.ok {R : Nat} {s : ByteArray} {w : World} {o : Option (List (List UInt8) × Nat)} {f : FuncId} {args : Array Value} (h : Calls Tryz.prog f args w (LRes R s w o)) {l : List (List UInt8)} {n : Nat} (ho : o = some (l, n)) :
  Calls Tryz.prog f args w fun e w' => ∃ v ss, e = .returned v ∧ ss.map tl = l ∧ StrSl w' v ss ∧ Rd R s n w' ∧ Only R w w' := by
 subst ho; exact h.mono fun e w' ⟨h1, v, ss, h2, h3, h4, h5⟩ => ⟨v, ss, h2, h3, h4, h5, h1⟩
theorem LRes.no {R : Nat} {s : ByteArray} {w : World} {o : Option (List (List UInt8) × Nat)} {f : FuncId} {args : Array Value} (h : Calls Tryz.prog f args w (LRes R s w o)) (ho : o = none) :
  Calls Tryz.prog f args w fun e w' => e = .panicked gaveUp ∧ Only R w w' := by
 subst ho; exact h.mono fun e w' ⟨h1, h2⟩ => ⟨h2, h1⟩
theorem Only.fresh {R R2 : Nat} {w w1 w2 : World} (h : Only R w w1) (h2 : Only R2 w1 w2) (hR : w.heap.size ≤ R2) : Only R w w2 :=
 ⟨h2.os.trans h.os, h2.tape.trans h.tape, h2.output.trans h.output, Nat.le_trans h.size h2.size, fun k hk hne => (h2.block k (Nat.lt_of_lt_of_le hk h.size) (by omega)).trans (h.block k hk hne)⟩
theorem Rd.only {R R2 : Nat} {s : ByteArray} {n : Nat} {w w' : World} (h : Rd R s n w) (ho : Only R2 w w') (hne : R ≠ R2) : Rd R s n w' := by
 unfold Rd; rw [ho.block R h.lt hne]; exact h
theorem Rd.alloc {R : Nat} {s : ByteArray} {n : Nat} {w : World} (h : Rd R s n w) (o : Obj) : Rd R s n (w.alloc o) := h.below ((Below.refl _ _).alloc (Nat.le_refl _) o)
set_option maxHeartbeats 1000000 in
theorem belowR (R : Nat) (s : ByteArray) (n began : Nat) (w : World) (hr : Rd R s n w) (hs : s.size ≤ 1000)
  (IH : ∀ p, p < began → ∀ R' w', Rd R' s p w' → Calls Tryz.prog 188 #[.pointer (some ⟨R', 0, none⟩)] w' (LRes R' s w' (lblS (tl s) p p))) :
  Calls Tryz.prog 258 #[.pointer (some ⟨R, 0, none⟩), .int .i64 (began : Int)] w (LRes R s w (ptrS (tl s) began n)) := by
 have HI : Hid (∀ p, p < began → ∀ R' w', Rd R' s p w' → Calls Tryz.prog 188 #[.pointer (some ⟨R', 0, none⟩)] w' (LRes R' s w' (lblS (tl s) p p))) := IH
 clear IH
 cases h0 : byteS (tl s) n with
 | none =>
  rw [show ptrS (tl s) began n = none by simp [ptrS, h0]]
  go_enter Tryz.func258, Tryz.ntmps258
  go_wp2_with fail
  refine (Res.no (oneByteR R s n _ hr hs) h0).mono ?_
  rintro e w1 ⟨rfl, o1⟩
  exact ⟨rfl, o1, rfl⟩
 | some x =>
  obtain ⟨a, m⟩ := x
  obtain ⟨bx0, bx1, _, _⟩ := byteS_bd h0
  by_cases hlt : a < (began : Int)
  ·have hlt' : a.toNat < began := by omega
   obtain ⟨p, rfl⟩ : ∃ p : Nat, a = p := ⟨a.toNat, by omega⟩
   have e1 : ptrS (tl s) began n = (lblS (tl s) p p).map fun x => (x.1, m) := by
    simp only [ptrS, h0, Option.bind_some]; rw [if_pos hlt']; rfl
   cases h1 : lblS (tl s) p p with
   | none =>
    rw [e1, h1, Option.map_none]
    clear e1
    go_enter Tryz.func258, Tryz.ntmps258
    go_wp2_with fail
    refine (Res.ok (oneByteR R s n _ hr hs) h0).mono ?_
    rintro e w1 ⟨rfl, r1, o1⟩
    obtain ⟨c0, c1, cf⟩ := r1.cells
    go_wp2_with fail
    refine (must_yes _ _ (by first | rfl | (simp; omega))).mono ?_
    rintro e w' ⟨rfl, rfl⟩
    go_wp2_with fail
    refine (LRes.no (HI.out p (by omega) _ _ (heap_alloc_new _ _)) h1).mono ?_
    rintro e w2 ⟨rfl, o2⟩
    exact ⟨rfl, (o1.alloc _).fresh o2 o1.size, rfl⟩
   | some y =>
    obtain ⟨l, m'⟩ := y
    rw [e1, h1, Option.map_some]
    clear e1
    go_enter Tryz.func258, Tryz.ntmps258
    go_wp2_with fail
    refine (Res.ok (oneByteR R s n _ hr hs) h0).mono ?_
    rintro e w1 ⟨rfl, r1, o1⟩
    obtain ⟨c0, c1, cf⟩ := r1.cells
    go_wp2_with fail
    refine (must_yes _ _ (by first | rfl | (simp; omega))).mono ?_
    rintro e w' ⟨rfl, rfl⟩
    go_wp2_with fail
    refine (LRes.ok (HI.out p (by omega) _ _ (heap_alloc_new _ _)) h1).mono ?_
    rintro e w2 ⟨v, ss, rfl, hmap, hsl, r2, o2⟩
    go_wp2
    go_ret
    exact ⟨(o1.alloc _).fresh o2 o1.size, v, ss, rfl, hmap, hsl, (r1.alloc _).only o2 (by have := r1.lt; omega)⟩
  ·rw [show ptrS (tl s) began n = none by simp only [ptrS, h0, Option.bind_some]; rw [if_neg (by omega)]]
   go_enter Tryz.func258, Tryz.ntmps258
   go_wp2_with fail
   refine (Res.ok (oneByteR R s n _ hr hs) h0).mono ?_
   rintro e w1 ⟨rfl, r1, o1⟩
   go_wp2_with fail
   refine (must_not _ _ (by first | rfl | (simp; omega))).mono ?_
   rintro e w' ⟨rfl, rfl⟩
   exact ⟨rfl, o1, rfl⟩
end Go.Proofs.YtefdokkadckbbaaGreatDoor
end
section
namespace Go.Proofs.YtefdokkadckbbaaGreatDoor
open Go.RowKit
set_option maxRecDepth 100000
theorem Only.grown {R : Nat} {a w w' : World} {row : Option Nat} (h : Only R a w) (hg : w.grownBy w' row) (hr : ∀ k, row = some k → a.heap.size ≤ k) : Only R a w' :=
 ⟨hg.os.trans h.os, hg.tape.trans h.tape, hg.output.trans h.output, Nat.le_trans h.size hg.size, fun k hk hne => (hg.block k (Nat.lt_of_lt_of_le hk h.size) (fun e => by have := hr k e.symm; omega)).trans (h.block k hk hne)⟩
theorem Rd.grown {R : Nat} {s : ByteArray} {n : Nat} {w w' : World} {row : Option Nat} (h : Rd R s n w) (hg : w.grownBy w' row) (hne : row ≠ some R) : Rd R s n w' := by
 unfold Rd; rw [hg.block R h.lt (fun e => hne e.symm)]; exact h
theorem lab_step {R : Nat} {s : ByteArray} {w wr w1 w2 : World} {ss : List ByteArray} {l : List UInt8} {v v' : Value} {o : Obj} {m : Nat} (hRw : R < w.heap.size)
  (hown : wr.ownsRow w.heap.size 9 1 v ss.length (ss.map Value.string)) (hon : Only R w wr) (o1 : Only R wr w1) (r1 : Rd R s m w1)
  (hown' : w2.ownsRow w.heap.size 9 1 v' (ss.length + 1) (ss.map Value.string ++ [.string (mk l)])) (hg : (w1.alloc o).grownBy w2 v.ownBlock) :
  w2.ownsRow w.heap.size 9 1 v' (ss ++ [mk l]).length ((ss ++ [mk l]).map Value.string) ∧ Rd R s m w2 ∧ Only R w w2 := by
 have hge := own_ge hown
 refine ⟨by simpa using hown', (r1.alloc o).grown hg (fun e => by have := hge R e; omega), ((hon.trans o1).alloc o).grown hg hge⟩
theorem ptr_step {R : Nat} {s : ByteArray} {w wr w1 w2 : World} {ss ss2 : List ByteArray} {v v' : Value} {m : Nat} (hRw : R < w.heap.size)
  (hown : wr.ownsRow w.heap.size 9 1 v ss.length (ss.map Value.string)) (hon : Only R w wr) (o1 : Only R wr w1) (r1 : Rd R s m w1)
  (hown' : w2.ownsRow w.heap.size 9 1 v' (ss.length + ss2.length) (ss.map Value.string ++ ss2.map Value.string)) (hg : w1.grownBy w2 v.ownBlock) :
  StrSl w2 v' (ss ++ ss2) ∧ Rd R s m w2 ∧ Only R w w2 := by
 have hge := own_ge hown
 refine ⟨StrSl_of_owns (base := w.heap.size) (by simpa using hown'), r1.grown hg (fun e => by have := hge R e; omega), (hon.trans o1).grown hg hge⟩
set_option maxHeartbeats 4000000 in
theorem labelsR (s : ByteArray) (hs : s.size ≤ 1000) : ∀ (n R : Nat) (w : World), n ≤ 1000 → Rd R s n w → Calls Tryz.prog 188 #[.pointer (some ⟨R, 0, none⟩)] w (LRes R s w (lblS (tl s) n n)) := by
 intro n
 induction n using Nat.strongRecOn with
 | _ n ih =>
 intro R w hn hr
 have HI : Hid (∀ p, p < n → ∀ R' w', Rd R' s p w' → Calls Tryz.prog 188 #[.pointer (some ⟨R', 0, none⟩)] w' (LRes R' s w' (lblS (tl s) p p))) := fun p hp R' w' hr' => ih p hp R' w' (by omega) hr'
 clear ih
 obtain ⟨i0, hi, hz0, hz1, hz2⟩ := info_parts info9
 have hRl := hr.lt
 obtain ⟨c0, c1, cf⟩ := hr.cells
 go_enter Tryz.func188, Tryz.ntmps188
 go_wp2
 clear c0 c1 cf
 go_loopg [4] (s.size + 1) (fun g v wr => ∃ (k : Nat) (ss : List ByteArray), s.size + 1 - k ≤ g ∧ ss.length + n ≤ k ∧ (ss ≠ [] → k ≤ s.size) ∧ wr.ownsRow w.heap.size 9 1 v ss.length (ss.map Value.string) ∧ Rd R s k wr ∧ Only R w wr ∧
   Aside (lblS (tl s) n n = (lblS (tl s) n k).map fun x => (ss.map tl ++ x.1, x.2)))
 case atStart => exact ⟨n, [], by omega, by simp, fun h => absurd rfl h, World.ownsRow_nil _ _ _ _, hr, Only.refl _ _, by show _ = _; simp⟩
 case round =>
  obtain ⟨k, ss, hg, hk, hks, hown, hrd, hon, hsp⟩ := hrel
  have HK : Hid (ss ≠ [] → k ≤ s.size) := hks
  clear hks
  have hss : ss.length ≤ 1000 := by
   by_cases e : ss = []
   ·subst e; simp
   ·have := HK.out e; omega
  cases h0 : byteS (tl s) k with
  | none =>
   have HN : Hid (lblS (tl s) n n = none) := by show _ = _; rw [hsp.out, lblS_none h0]; rfl
   go_wp2_with fail
   refine (Res.no (oneByteR R s k _ hrd hs) h0).mono ?_
   rintro e w1 ⟨rfl, o1⟩
   exact ⟨rfl, by rw [HN.out]; exact ⟨hon.trans o1, rfl⟩⟩
  | some x =>
   obtain ⟨a, m⟩ := x
   obtain ⟨ba0, ba1, hm, hkl⟩ := byteS_bd h0
   rw [tl_length] at hkl
   by_cases a0 : a = 0
   ·subst a0
    have HN : Hid (lblS (tl s) n n = some (ss.map tl, m)) := by show _ = _; rw [hsp.out, lblS_end h0]; simp
    go_wp2_with fail
    refine (Res.ok (oneByteR R s k _ hrd hs) h0).mono ?_
    rintro e w1 ⟨rfl, r1, o1⟩
    have hown1 := hown.only o1 hRl
    go_wp2
    go_ret
    rw [HN.out]
    exact ⟨hon.trans o1, _, ss, rfl, rfl, StrSl_of_owns hown1, r1⟩
   by_cases a1 : a = 255
   ·subst a1
    have e1 : Hid (lblS (tl s) n n = (ptrS (tl s) n m).map fun x => (ss.map tl ++ x.1, x.2)) := by show _ = _; rw [hsp.out, lblS_ptr h0]
    cases h1 : ptrS (tl s) n m with
    | none =>
     have HN : Hid (lblS (tl s) n n = none) := by show _ = _; rw [e1.out, h1]; rfl
     go_wp2_with fail
     refine (Res.ok (oneByteR R s k _ hrd hs) h0).mono ?_
     rintro e w1 ⟨rfl, r1, o1⟩
     go_wp2_with fail
     refine (LRes.no (belowR R s m n _ r1 hs HI.out) h1).mono ?_
     rintro e w2 ⟨rfl, o2⟩
     exact ⟨rfl, by rw [HN.out]; exact ⟨(hon.trans o1).trans o2, rfl⟩⟩
    | some y =>
     obtain ⟨l2, m2⟩ := y
     have HN : Hid (lblS (tl s) n n = some (ss.map tl ++ l2, m2)) := by show _ = _; rw [e1.out, h1]; rfl
     have hl2 : l2.length ≤ 1000000 := by
      unfold ptrS at h1
      cases hp : byteS (tl s) m with
      | none => rw [hp] at h1; cases h1
      | some p =>
       obtain ⟨p, m3⟩ := p
       have hpb := byteS_bd hp
       rw [hp, Option.bind_some] at h1
       simp only at h1
       by_cases hlt : p.toNat < n
       ·rw [if_pos hlt] at h1
        cases hq : lblS (tl s) p.toNat p.toNat with
        | none => rw [hq] at h1; cases h1
        | some z =>
         obtain ⟨l', m'⟩ := z
         have := (lblS_len _ _ _ _ _ hq).1
         rw [hq] at h1
         simp only [Option.map_some, Option.some.injEq, Prod.mk.injEq] at h1
         obtain ⟨rfl, rfl⟩ := h1
         rw [tl_length] at this
         have h3 : p.toNat * s.size ≤ 255 * 1000 := Nat.mul_le_mul (by omega) hs
         omega
       ·rw [if_neg hlt] at h1; cases h1
     go_wp2_with fail
     refine (Res.ok (oneByteR R s k _ hrd hs) h0).mono ?_
     rintro e w1 ⟨rfl, r1, o1⟩
     go_wp2_with fail
     refine (LRes.ok (belowR R s m n _ r1 hs HI.out) h1).mono ?_
     rintro e w2 ⟨v2, ss2, rfl, hmap2, hsl2, r2, o2⟩
     have hown2 := hown.only (o1.trans o2) hRl
     have HM2 : Hid (ss2.map tl = l2) := hmap2
     have hs2l : ss2.length ≤ 1000000 := by
      have : ss2.length = l2.length := by rw [← hmap2, List.length_map]
      omega
     clear hmap2
     rcases hsl2 with ⟨rfl, rfl⟩ | ⟨g2, o2', c2, rfl, hg2, hc2, hcell2⟩
     ·go_wp2_with (first
       | (at_builtin; refine wpList_append_own_none rfl _ _ 42 rfl w.heap.size 9 i0 1 u106 hi _ _ _ rfl hown2 rfl ?_))
      go_ret
      rw [HN.out]
      exact ⟨(hon.trans o1).trans o2, _, ss, rfl, by rw [← HM2.out]; simp, StrSl_of_owns hown2, r2⟩
     ·have HC2 : Hid (∀ j x, ss2[j]? = some x → w2.cell? ⟨g2, o2' + j, none⟩ = some (.string x)) := hcell2
      clear hcell2
      go_wp2_with (first
       | (at_builtin; refine wpList_append_own _ rfl _ _ 42 rfl w.heap.size 9 i0 (.string ByteArray.empty) 1 16 u106 hi hz0 hz1 hz2 rfl (by decide) _ _ _ rfl hown2 ⟨g2, o2', none⟩ ss2.length c2 (ss2.map Value.string) rfl (by simp) ?c1 ?c2 ?c3 ?c4 ?c5 ?_))
      case c1 =>
       intro j u hj
       have e : (⟨g2, o2', none⟩ : Addr).add j = ⟨g2, o2' + j, none⟩ := by unfold Addr.add; split <;> simp_all
       rw [e]
       rw [List.getElem?_map] at hj
       cases hq : ss2[j]? with
       | none => rw [hq] at hj; cases hj
       | some q => rw [hq] at hj; simp at hj; subst hj; exact HC2.out j q hq
      case c2 => intro u hu; obtain ⟨q, _, rfl⟩ := List.mem_map.1 hu; rfl
      case c3 => unfold maxLen; omega
      case c4 => omega
      case c5 => have := hon.size; have := o1.size; have := o2.size; omega
      intro v' w3 hown' hgrow _
      have R3 := ptr_step hRl hown hon (o1.trans o2) r2 hown' hgrow
      clear hown' hgrow hown hown2
      go_wp2
      go_ret
      rw [HN.out]
      exact ⟨R3.2.2, v', ss ++ ss2, rfl, by rw [← HM2.out]; simp, R3.1, R3.2.1⟩
   ·have e1 : Hid (lblS (tl s) n n = ((labelS (tl s) a m).bind fun l => (lblS (tl s) n l.2).map fun x => (l.1 :: x.1, x.2)).map fun x => (ss.map tl ++ x.1, x.2)) := by show _ = _; rw [hsp.out, lblS_lab h0 a0 a1]
    cases h1 : labelS (tl s) a m with
    | none =>
     have HN : Hid (lblS (tl s) n n = none) := by show _ = _; rw [e1.out, h1]; rfl
     go_wp2_with fail
     refine (Res.ok (oneByteR R s k _ hrd hs) h0).mono ?_
     rintro e w1 ⟨rfl, r1, o1⟩
     go_wp2_with fail
     refine (Res.no (labelR R s m a _ r1 hs) h1).mono ?_
     rintro e w2 ⟨rfl, o2⟩
     exact ⟨rfl, by rw [HN.out]; exact ⟨(hon.trans o1).trans o2, rfl⟩⟩
    | some y =>
     obtain ⟨l, m3⟩ := y
     obtain ⟨hm3, _, hla, _, _⟩ := labelS_bd h1
     have hm3s : m3 ≤ s.size := by
      unfold labelS at h1
      by_cases ha : 1 ≤ a ∧ a ≤ 6
      ·rw [if_pos ha] at h1
       have := (lettersS_bd _ _ h1).2.2.2
       have := (lettersS_bd _ _ h1).1
       rw [tl_length] at *
       omega
      ·rw [if_neg ha] at h1; cases h1
     have HNX : Hid (lblS (tl s) n n = (lblS (tl s) n m3).map fun x => ((ss ++ [mk l]).map tl ++ x.1, x.2)) := by
      show _ = _
      rw [e1.out, h1, Option.bind_some]
      cases lblS (tl s) n m3 <;> simp [tl_mk']
     go_wp2_with fail
     refine (Res.ok (oneByteR R s k _ hrd hs) h0).mono ?_
     rintro e w1 ⟨rfl, r1, o1⟩
     go_wp2_with fail
     refine (Res.ok (labelR R s m a _ r1 hs) h1).mono ?_
     rintro e w2 ⟨rfl, r2, o2⟩
     have hown2 := hown.only (o1.trans o2) hRl
     go_wp2_with (first
      | (at_builtin; refine wpList_append_own _ rfl _ _ 42 rfl w.heap.size 9 i0 (.string ByteArray.empty) 1 16 u106 hi hz0 hz1 hz2 rfl (by decide) _ _ _ rfl (hown2.alloc _) ⟨w2.heap.size, 0, none⟩ 1 1 [.string (mk l)] rfl rfl ?d1 ?d2 ?d3 ?d4 ?d5 ?_))
     case d1 =>
      intro j u hj
      match j, hj with
      | 0, hj => simp at hj; subst hj; simp [Addr.add]
     case d2 => intro u hu; simp at hu; subst hu; rfl
     case d3 => unfold maxLen; omega
     case d4 => omega
     case d5 => have := hon.size; have := o1.size; have := o2.size; simp; omega
     intro v' w3 hown' hgrow _
     have R3 := lab_step hRl hown hon (o1.trans o2) r2 hown' hgrow
     clear hown' hgrow hown hown2
     go_wp2
     go_roundg (s.size + 1 - m3)
     case rel => exact ⟨m3, ss ++ [mk l], Nat.le_refl _, by simp; omega, fun _ => hm3s, R3.1, R3.2.1, R3.2.2, HNX.out⟩
     case measure => omega
end Go.Proofs.YtefdokkadckbbaaGreatDoor
end
