/- The reference's reading of a record and the program's are one. -/
import Derived.Test.YtefdokkadckbbaaGreatDoorI3
namespace Go.Proofs.YtefdokkadckbbaaGreatDoor
open Go.RowKit

theorem low_nodot {c : UInt8} (h : low c = true) : ¬ c.toNat = 46 := by
  unfold low at h
  have := of_decide_eq_true h
  omega
theorem cutAcc_word : ∀ (x cur r : List UInt8), x.all low = true → cutAcc cur (x ++ r) = cutAcc (cur ++ x) r
  | [], cur, r, _ => by simp
  | c :: x, cur, r, h => by
    rw [List.all_cons, Bool.and_eq_true] at h
    rw [List.cons_append, cutAcc, if_neg (low_nodot h.1), cutAcc_word x (cur ++ [c]) r h.2]
    simp
theorem dotJoin_cons (x y : List UInt8) (r : List (List UInt8)) : dotJoin (x :: y :: r) = x ++ 46 :: dotJoin (y :: r) := by
  unfold dotJoin
  rw [Lib.join_cons, Lib.join_cons]
  simp [Lib.joinTail]
theorem lab_low {x : List UInt8} (h : labOk x = true) : x.all low = true := by unfold labOk at h; rw [Bool.and_eq_true] at h; exact h.2
theorem lab_ne {x : List UInt8} (h : labOk x = true) : x ≠ [] := by
  intro e; subst e; unfold labOk at h; simp at h
theorem cutAcc_join : ∀ (l : List (List UInt8)), l ≠ [] → l.all labOk = true → cutAcc [] (dotJoin l) = l
  | [], h, _ => absurd rfl h
  | [x], _, h => by
    have hx := lab_low (by simpa using h)
    rw [dotJoin_first]
    have := cutAcc_word x [] [] hx
    rw [List.append_nil] at this
    rw [this]; rfl
  | x :: y :: r, _, h => by
    rw [List.all_cons, Bool.and_eq_true] at h
    rw [dotJoin_cons, cutAcc_word x [] _ (lab_low h.1), cutAcc, if_pos (by decide), cutAcc_join (y :: r) (by simp) h.2]
    rfl
theorem labs_join {l : List (List UInt8)} (h : l.all labOk = true) : labs (dotJoin l) = l := by
  by_cases e : l = []
  · subst e; rfl
  · unfold labs
    have hne : dotJoin l ≠ [] := by
      cases l with
      | nil => exact absurd rfl e
      | cons x r =>
        rw [List.all_cons, Bool.and_eq_true] at h
        intro e2
        unfold dotJoin at e2
        rw [Lib.join_cons] at e2
        exact lab_ne h.1 (List.append_eq_nil_iff.1 e2).1
    rw [if_neg hne, cutAcc_join l e h]
theorem nameOk_join {l : List (List UInt8)} (h5 : l.length ≤ 5) (h : l.all labOk = true) : nameOk (tl (mk (dotJoin l))) = true := by
  rw [tl_mk']
  unfold nameOk
  rw [labs_join h, h, decide_eq_true h5]; rfl

theorem nameS_cut (t : List UInt8) (n : Nat) : nameS t n = (cutS t n).map fun x => (dotJoin x.1, x.2) := by
  unfold nameS cutS
  cases lblS t n n with
  | none => rfl
  | some x =>
    simp only [Option.bind_some]
    by_cases h : x.1.length ≤ 5
    · rw [if_pos h, if_pos h]; rfl
    · rw [if_neg h, if_neg h]; rfl

theorem ckS_no {r : Rec} {m : Nat} (h : saysOk r = false) : ckS r m = none := by unfold ckS recOk; rw [h]; simp
theorem ckS_is {r : Rec} {m : Nat} (hn : nameOk (tl r.name) = true) (hs : saysOk r = true) : ckS r m = if 1 ≤ r.ttl ∧ r.ttl ≤ 1000 then some (r, m) else none := by
  unfold ckS recOk
  rw [hn, hs]
  by_cases h : 1 ≤ r.ttl ∧ r.ttl ≤ 1000
  · rw [decide_eq_true h, if_pos h]; rfl
  · rw [decide_eq_false h, if_neg h]; rfl

theorem rr2_said {t nm : List UInt8} {ty ttl : Int} {n : Nat} (hnm : nameOk (tl (mk nm)) = true) (hty : 1 ≤ ty ∧ ty ≤ 4) : rr2 t nm ty ttl n = if 1 ≤ ttl ∧ ttl ≤ 1000 then saidS t nm ty ttl n else none := by
  unfold rr2 saidS
  by_cases h1 : ty = 1
  · rw [if_pos h1, if_pos h1]
    cases hb : byteS t n with
    | none => simp
    | some b =>
      obtain ⟨b, m⟩ := b
      have hbb := byteS_bd hb
      rw [Option.bind_some, ckS_is hnm (by subst h1; unfold saysOk; rw [if_pos rfl, decide_eq_true (by simp only; omega)]; rfl)]
      rfl
  · rw [if_neg h1, if_neg h1]
    by_cases h2 : ty = 2 ∨ ty = 3
    · rw [if_pos h2, if_pos h2, nameS_cut]
      cases hg : cutS t n with
      | none => simp
      | some g =>
        obtain ⟨g, m⟩ := g
        obtain ⟨_, _, g5, gl⟩ := cutS_bd hg
        rw [Option.bind_some, ckS_is hnm (by unfold saysOk; rw [if_neg h1, if_pos h2, nameOk_join g5 gl]; rfl)]
        rfl
    · rw [if_neg h2, if_neg h2, ckS_is hnm (by unfold saysOk; rw [if_neg h1, if_neg h2, if_pos (by simp only; omega)]; rfl)]
theorem rr2_none {t nm : List UInt8} {ty ttl : Int} {n : Nat} (hty : ¬ (1 ≤ ty ∧ ty ≤ 4)) : rr2 t nm ty ttl n = none := by
  unfold rr2
  rw [if_neg (by omega), if_neg (by omega), ckS_no (by unfold saysOk; rw [if_neg (by simp only; omega), if_neg (by simp only; omega), if_neg (by simp only; omega)])]

/-- THE TWO READ THE SAME RECORDS. -/
theorem rrS_recS (t : List UInt8) (n : Nat) : rrS t n = recS t n := by
  unfold rrS recS
  rw [nameS_cut]
  cases hc : cutS t n with
  | none => rfl
  | some a =>
    obtain ⟨l, m⟩ := a
    obtain ⟨_, _, h5, hl⟩ := cutS_bd hc
    simp only [Option.bind_some, Option.map_some]
    unfold numS
    cases hb : byteS t m with
    | none => rfl
    | some b =>
      obtain ⟨ty, m2⟩ := b
      simp only [Option.bind_some]
      by_cases hty : 1 ≤ ty ∧ ty ≤ 4
      · rw [if_pos hty]
        simp only [Option.bind_some]
        congr 1
        funext x
        exact rr2_said (nameOk_join h5 hl) hty
      · rw [if_neg hty]
        cases ht : twoS t m2 with
        | none => rfl
        | some x => simp only [Option.bind_some]; rw [rr2_none hty]; rfl

theorem record_ref' (s : ByteArray) (n : Nat) (w : World) (hs : s.size ≤ 1000) (hn : n ≤ s.size) : Calls Tryz.prog 162 #[.string s, .int .i64 (n : Int)] w (RRes w (recS (tl s) n)) := by
  rw [← rrS_recS]; exact record_ref s n w hs hn
theorem RRes.ok {w : World} {o : Option (Rec × Nat)} {f : FuncId} {args : Array Value} (h : Calls Tryz.prog f args w (RRes w o)) {r : Rec} {m : Nat} (ho : o = some (r, m)) :
    Calls Tryz.prog f args w fun e w' => e = .returned (.tuple #[recV r, .int .i64 (m : Int)]) ∧ Below w.heap.size w w' := by
  subst ho; exact h.mono fun e w' ⟨h1, h2⟩ => ⟨h2, h1⟩
theorem RRes.no {w : World} {o : Option (Rec × Nat)} {f : FuncId} {args : Array Value} (h : Calls Tryz.prog f args w (RRes w o)) (ho : o = none) :
    Calls Tryz.prog f args w fun e w' => e = .returned (.tuple #[recV ⟨⟨#[]⟩, 0, 0, 0, ⟨#[]⟩⟩, .int .i64 (-1)]) ∧ Below w.heap.size w w' := by
  subst ho; exact h.mono fun e w' ⟨h1, h2⟩ => ⟨h2, h1⟩
end Go.Proofs.YtefdokkadckbbaaGreatDoor
