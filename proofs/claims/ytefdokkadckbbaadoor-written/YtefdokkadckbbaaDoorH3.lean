/- The labels of a name, as they are read: what the document says. -/
import Derived.Test.YtefdokkadckbbaaDoorH2
namespace Go.Proofs.YtefdokkadckbbaaDoor
open Go.RowKit

theorem lettersS_bd {t : List UInt8} : ∀ (k n : Nat) {l : List UInt8} {m : Nat}, lettersS t k n = some (l, m) → m = n + k ∧ l.length = k ∧ l.all low = true ∧ n + k ≤ max n t.length
  | 0, n, l, m, h => by
    simp only [lettersS, Option.some.injEq, Prod.mk.injEq] at h
    obtain ⟨rfl, rfl⟩ := h
    simp; omega
  | k + 1, n, l, m, h => by
    simp only [lettersS] at h
    cases h0 : letS t n with
    | none => rw [h0] at h; cases h
    | some x =>
      obtain ⟨x, m1⟩ := x
      obtain ⟨x0, x1, hm, hn⟩ := letS_bd h0
      rw [h0, Option.bind_some] at h
      simp only at h
      cases h1 : lettersS t k m1 with
      | none => rw [h1] at h; cases h
      | some y =>
        obtain ⟨l', m'⟩ := y
        obtain ⟨e1, e2, e3, e4⟩ := lettersS_bd k m1 h1
        rw [h1] at h
        simp only [Option.map_some, Option.some.injEq, Prod.mk.injEq] at h
        obtain ⟨rfl, rfl⟩ := h
        refine ⟨by omega, by simp [e2], ?_, by omega⟩
        rw [List.all_cons, e3, Bool.and_true]
        unfold low
        refine decide_eq_true ?_
        have : ((UInt8.ofNat x.toNat).toNat : Int) = x := by rw [UInt8.toNat_ofNat']; omega
        omega
theorem labelS_bd {t : List UInt8} {a : Int} {n : Nat} {l : List UInt8} {m : Nat} (h : labelS t a n = some (l, m)) : m = n + a.toNat ∧ labOk l = true ∧ 1 ≤ a ∧ a ≤ 6 ∧ (l.length : Int) = a := by
  unfold labelS at h
  by_cases ha : 1 ≤ a ∧ a ≤ 6
  · rw [if_pos ha] at h
    obtain ⟨e1, e2, e3, _⟩ := lettersS_bd _ _ h
    refine ⟨e1, ?_, ha.1, ha.2, by omega⟩
    unfold labOk
    rw [e3, Bool.and_true]
    exact decide_eq_true (by omega)
  · rw [if_neg ha] at h; cases h

/-- The labels of the name that began at 'began', from place n on, and the place behind it: in f steps. -/
def lblF (t : List UInt8) : Nat → Nat → Nat → Option (List (List UInt8) × Nat)
  | 0, _, _ => none
  | f + 1, began, n =>
    match byteS t n with
    | none => none
    | some (a, m) =>
      if a = 0 then some ([], m)
      else if a = 255 then
        match byteS t m with
        | none => none
        | some (p, m2) => if p.toNat < began then (lblF t f p.toNat p.toNat).map fun x => (x.1, m2) else none
      else
        match labelS t a m with
        | none => none
        | some (l, m3) => (lblF t f began m3).map fun x => (l :: x.1, x.2)
/-- So many steps are enough. -/
def lblM (t : List UInt8) (began n : Nat) : Nat := began * (t.length + 1) + (t.length - n)
theorem lblM_ptr {t : List UInt8} {began n p : Nat} (h : p < began) : lblM t p p < lblM t began n := by
  unfold lblM
  have h1 : (p + 1) * (t.length + 1) ≤ began * (t.length + 1) := Nat.mul_le_mul_right _ h
  rw [Nat.add_mul] at h1
  omega
theorem lblM_lab {t : List UInt8} {began n m m3 : Nat} {a : Int} {l : List UInt8} (h : byteS t n = some (a, m)) (h2 : labelS t a m = some (l, m3)) : lblM t began m3 < lblM t began n := by
  have h1 := byteS_bd h
  have h3 := labelS_bd h2
  unfold lblM
  omega
theorem lblF_eq (t : List UInt8) (f : Nat) : ∀ g began n, lblM t began n < f → lblM t began n < g → lblF t f began n = lblF t g began n := by
  induction f with
  | zero => intro g began n h; omega
  | succ f ih =>
    intro g began n h1 h2
    cases g with
    | zero => omega
    | succ g =>
      simp only [lblF]
      cases hb : byteS t n with
      | none => rfl
      | some x =>
        obtain ⟨a, m⟩ := x
        simp only
        split
        · rfl
        · split
          · cases hc : byteS t m with
            | none => rfl
            | some y =>
              obtain ⟨p, m2⟩ := y
              simp only
              split
              · rename_i hp
                have := lblM_ptr (t := t) (n := n) hp
                rw [ih g p.toNat p.toNat (by omega) (by omega)]
              · rfl
          · cases hl : labelS t a m with
            | none => rfl
            | some y =>
              obtain ⟨l, m3⟩ := y
              have := lblM_lab (began := began) hb hl
              simp only
              rw [ih g began m3 (by omega) (by omega)]
/-- The labels of the name that began at 'began', from place n on, and the place behind it. -/
def lblS (t : List UInt8) (began n : Nat) : Option (List (List UInt8) × Nat) := lblF t (lblM t began n + 1) began n
theorem lblS_of {t : List UInt8} {began n f : Nat} (h : lblM t began n < f) : lblF t f began n = lblS t began n := lblF_eq t f _ _ _ h (Nat.lt_succ_self _)

theorem lblS_none {t : List UInt8} {began n : Nat} (h : byteS t n = none) : lblS t began n = none := by
  unfold lblS lblF
  rw [h]
theorem lblS_step {t : List UInt8} {began n : Nat} {a : Int} {m : Nat} (h : byteS t n = some (a, m)) : lblS t began n =
    if a = 0 then some ([], m)
    else if a = 255 then
      (match byteS t m with
      | none => none
      | some (p, m2) => if p.toNat < began then (lblS t p.toNat p.toNat).map fun x => (x.1, m2) else none)
    else
      (match labelS t a m with
      | none => none
      | some (l, m3) => (lblS t began m3).map fun x => (l :: x.1, x.2)) := by
  show lblF t (lblM t began n + 1) began n = _
  simp only [lblF, h]
  split
  · rfl
  · split
    · cases hc : byteS t m with
      | none => rfl
      | some y =>
        obtain ⟨p, m2⟩ := y
        simp only
        split
        · rename_i hp
          rw [lblS_of (lblM_ptr hp)]
        · rfl
    · cases hl : labelS t a m with
      | none => rfl
      | some y =>
        obtain ⟨l, m3⟩ := y
        simp only
        rw [lblS_of (lblM_lab h hl)]

theorem lblS_end {t : List UInt8} {began n m : Nat} (h : byteS t n = some (0, m)) : lblS t began n = some ([], m) := by
  rw [lblS_step h, if_pos rfl]
/-- A name that goes on with an earlier one. -/
def ptrS (t : List UInt8) (began m : Nat) : Option (List (List UInt8) × Nat) :=
  (byteS t m).bind fun p => if p.1.toNat < began then (lblS t p.1.toNat p.1.toNat).map fun x => (x.1, p.2) else none
theorem lblS_ptr {t : List UInt8} {began n m : Nat} (h : byteS t n = some (255, m)) : lblS t began n = ptrS t began m := by
  rw [lblS_step h, if_neg (by decide), if_pos rfl]
  unfold ptrS
  cases byteS t m with
  | none => rfl
  | some p => rfl
theorem lblS_lab {t : List UInt8} {began n m : Nat} {a : Int} (h : byteS t n = some (a, m)) (h0 : a ≠ 0) (h1 : a ≠ 255) : lblS t began n =
    (labelS t a m).bind fun l => (lblS t began l.2).map fun x => (l.1 :: x.1, x.2) := by
  rw [lblS_step h, if_neg h0, if_neg h1]
  cases labelS t a m with
  | none => rfl
  | some p => rfl

/-- So many labels at the most; each is one. -/
theorem lblS_len (t : List UInt8) (began n : Nat) : ∀ l m, lblS t began n = some (l, m) → l.length ≤ (t.length - n) + began * t.length ∧ l.all labOk = true ∧ n < m ∧ m ≤ t.length := by
  induction began using Nat.strongRecOn generalizing n with
  | _ began ih =>
    generalize hk : t.length - n = k
    induction k using Nat.strongRecOn generalizing n with
    | _ k ih2 =>
      intro l m h
      cases h0 : byteS t n with
      | none => rw [lblS_none h0] at h; cases h
      | some x =>
        obtain ⟨a, m1⟩ := x
        obtain ⟨_, _, hm1, hn⟩ := byteS_bd h0
        by_cases a0 : a = 0
        · subst a0
          rw [lblS_end h0] at h
          simp only [Option.some.injEq, Prod.mk.injEq] at h
          obtain ⟨rfl, rfl⟩ := h
          exact ⟨by simp, rfl, by omega, by omega⟩
        by_cases a1 : a = 255
        · subst a1
          rw [lblS_ptr h0] at h
          unfold ptrS at h
          cases hp : byteS t m1 with
          | none => rw [hp] at h; cases h
          | some p =>
            obtain ⟨p, m2⟩ := p
            have hpb := byteS_bd hp
            rw [hp, Option.bind_some] at h
            simp only at h
            by_cases hlt : p.toNat < began
            · rw [if_pos hlt] at h
              cases hr : lblS t p.toNat p.toNat with
              | none => rw [hr] at h; cases h
              | some y =>
                obtain ⟨l', m'⟩ := y
                obtain ⟨e1, e2, _, _⟩ := ih p.toNat hlt p.toNat l' m' hr
                rw [hr] at h
                simp only [Option.map_some, Option.some.injEq, Prod.mk.injEq] at h
                obtain ⟨rfl, rfl⟩ := h
                refine ⟨?_, e2, by omega, by omega⟩
                have : p.toNat * t.length + t.length ≤ began * t.length := by
                  rw [← Nat.succ_mul]; exact Nat.mul_le_mul_right _ hlt
                omega
            · rw [if_neg hlt] at h; cases h
        · rw [lblS_lab h0 a0 a1] at h
          cases hl : labelS t a m1 with
          | none => rw [hl] at h; cases h
          | some y =>
            obtain ⟨l1, m3⟩ := y
            have hlb := labelS_bd hl
            rw [hl, Option.bind_some] at h
            simp only at h
            cases hr : lblS t began m3 with
            | none => rw [hr] at h; cases h
            | some z =>
              obtain ⟨l2, m4⟩ := z
              obtain ⟨e1, e2, e3, e4⟩ := ih2 (t.length - m3) (by omega) m3 rfl l2 m4 hr
              rw [hr] at h
              simp only [Option.map_some, Option.some.injEq, Prod.mk.injEq] at h
              obtain ⟨rfl, rfl⟩ := h
              refine ⟨by simp; omega, by rw [List.all_cons, hlb.2.1, e2]; rfl, by omega, e4⟩
end Go.Proofs.YtefdokkadckbbaaDoor
