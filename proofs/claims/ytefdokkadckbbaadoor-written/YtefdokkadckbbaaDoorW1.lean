/- What is read of what was written: the plain side of 'Written'. -/
import Derived.Test.YtefdokkadckbbaaDoorHa
namespace Go.Proofs.YtefdokkadckbbaaDoor
open Go.RowKit

theorem dotJoin_first (x : List UInt8) : dotJoin [x] = x := Lib.join_one x [46]
theorem low_nodot {c : UInt8} (h : low c = true) : ¬ c.toNat = 46 := by
  unfold low at h
  have := of_decide_eq_true h
  omega
theorem cutAcc_word : ∀ (x cur r : List UInt8), x.all low = true → cutAcc cur (x ++ r) = cutAcc (cur ++ x) r
  | [], cur, r, _ => by simp
  | c :: x, cur, r, h => by
    rw [List.all_cons, Bool.and_eq_true] at h
    rw [List.cons_append, cutAcc, if_neg (low_nodot h.1), cutAcc_word x (cur ++ [c]) r h.2]
    simp
theorem dotJoin_cons (x y : List UInt8) (r : List (List UInt8)) : dotJoin (x :: y :: r) = x ++ 46 :: dotJoin (y :: r) := by
  unfold dotJoin
  rw [Lib.join_cons, Lib.join_cons]
  simp [Lib.joinTail]
theorem lab_low {x : List UInt8} (h : labOk x = true) : x.all low = true := by unfold labOk at h; rw [Bool.and_eq_true] at h; exact h.2
theorem lab_ne {x : List UInt8} (h : labOk x = true) : x ≠ [] := by
  intro e; subst e; unfold labOk at h; simp at h
theorem cutAcc_join : ∀ (l : List (List UInt8)), l ≠ [] → l.all labOk = true → cutAcc [] (dotJoin l) = l
  | [], h, _ => absurd rfl h
  | [x], _, h => by
    have hx := lab_low (by simpa using h)
    rw [dotJoin_first]
    have := cutAcc_word x [] [] hx
    rw [List.append_nil] at this
    rw [this]; rfl
  | x :: y :: r, _, h => by
    rw [List.all_cons, Bool.and_eq_true] at h
    rw [dotJoin_cons, cutAcc_word x [] _ (lab_low h.1), cutAcc, if_pos (by decide), cutAcc_join (y :: r) (by simp) h.2]
    rfl
theorem labs_join {l : List (List UInt8)} (h : l.all labOk = true) : labs (dotJoin l) = l := by
  by_cases e : l = []
  · subst e; rfl
  · unfold labs
    have hne : dotJoin l ≠ [] := by
      cases l with
      | nil => exact absurd rfl e
      | cons x r =>
        rw [List.all_cons, Bool.and_eq_true] at h
        intro e2
        unfold dotJoin at e2
        rw [Lib.join_cons] at e2
        exact lab_ne h.1 (List.append_eq_nil_iff.1 e2).1
    rw [if_neg hne, cutAcc_join l e h]
theorem nameOk_join {l : List (List UInt8)} (h5 : l.length ≤ 5) (h : l.all labOk = true) : nameOk (tl (mk (dotJoin l))) = true := by
  rw [tl_mk']
  unfold nameOk
  rw [labs_join h, h, decide_eq_true h5]; rfl


section
variable {t u : List UInt8}
theorem byteS_ext {n : Nat} {x : Int × Nat} (h : byteS t n = some x) : byteS (t ++ u) n = some x := by
  unfold byteS at *
  cases h0 : t[n]? with
  | none => rw [h0] at h; cases h
  | some b =>
    rw [h0] at h
    rw [List.getElem?_append_left (List.getElem?_eq_some_iff.1 h0).1, h0]; exact h
theorem twoS_ext {n : Nat} {x : Int × Nat} (h : twoS t n = some x) : twoS (t ++ u) n = some x := by
  unfold twoS at *
  simp only [Option.bind_eq_some_iff, Option.map_eq_some_iff] at *
  obtain ⟨a, ha, b, hb, rfl⟩ := h
  exact ⟨a, byteS_ext ha, b, byteS_ext hb, rfl⟩
theorem numS_ext {lo hi : Int} {n : Nat} {x : Int × Nat} (h : numS t lo hi n = some x) : numS (t ++ u) lo hi n = some x := by
  unfold numS at *
  simp only [Option.bind_eq_some_iff] at *
  obtain ⟨a, ha, h⟩ := h
  exact ⟨a, byteS_ext ha, h⟩
theorem kindS_ext {n : Nat} {x : Bool × Nat} (h : kindS t n = some x) : kindS (t ++ u) n = some x := by
  unfold kindS at *
  simp only [Option.bind_eq_some_iff] at *
  obtain ⟨a, ha, h⟩ := h
  exact ⟨a, byteS_ext ha, h⟩
theorem letS_ext {n : Nat} {x : Int × Nat} (h : letS t n = some x) : letS (t ++ u) n = some x := by
  unfold letS at *
  simp only [Option.bind_eq_some_iff] at *
  obtain ⟨a, ha, h⟩ := h
  exact ⟨a, byteS_ext ha, h⟩
theorem lettersS_ext : ∀ (k n : Nat) {x : List UInt8 × Nat}, lettersS t k n = some x → lettersS (t ++ u) k n = some x
  | 0, n, x, h => h
  | k + 1, n, x, h => by
    simp only [lettersS, Option.bind_eq_some_iff, Option.map_eq_some_iff] at *
    obtain ⟨a, ha, l, hl, rfl⟩ := h
    exact ⟨a, letS_ext ha, l, lettersS_ext k a.2 hl, rfl⟩
theorem labelS_ext {a : Int} {n : Nat} {x : List UInt8 × Nat} (h : labelS t a n = some x) : labelS (t ++ u) a n = some x := by
  unfold labelS at *
  by_cases ha : 1 ≤ a ∧ a ≤ 6
  · rw [if_pos ha] at *; exact lettersS_ext _ _ h
  · rw [if_neg ha] at h; cases h
theorem lblS_ext (began n : Nat) : ∀ x, lblS t began n = some x → lblS (t ++ u) began n = some x := by
  induction began using Nat.strongRecOn generalizing n with
  | _ began ih =>
    generalize hk : t.length - n = k
    induction k using Nat.strongRecOn generalizing n with
    | _ k ih2 =>
      intro x h
      cases h0 : byteS t n with
      | none => rw [lblS_none h0] at h; cases h
      | some y =>
        obtain ⟨a, m⟩ := y
        have hbd := byteS_bd h0
        rw [lblS_step h0] at h
        rw [lblS_step (byteS_ext h0)]
        by_cases a0 : a = 0
        · rw [if_pos a0] at h ⊢; exact h
        rw [if_neg a0] at h ⊢
        by_cases a1 : a = 255
        · rw [if_pos a1] at h ⊢
          cases h1 : byteS t m with
          | none => rw [h1] at h; cases h
          | some z =>
            obtain ⟨p, m2⟩ := z
            rw [h1] at h
            rw [byteS_ext h1]
            simp only at h ⊢
            by_cases hp : p.toNat < began
            · rw [if_pos hp] at h ⊢
              simp only [Option.map_eq_some_iff] at h ⊢
              obtain ⟨q, hq, rfl⟩ := h
              exact ⟨q, ih p.toNat hp p.toNat q hq, rfl⟩
            · rw [if_neg hp] at h; cases h
        · rw [if_neg a1] at h ⊢
          cases h1 : labelS t a m with
          | none => rw [h1] at h; cases h
          | some z =>
            obtain ⟨l, m3⟩ := z
            have hl := labelS_bd h1
            rw [h1] at h
            rw [labelS_ext h1]
            simp only [Option.map_eq_some_iff] at h ⊢
            obtain ⟨q, hq, rfl⟩ := h
            exact ⟨q, ih2 (t.length - m3) (by omega) m3 rfl q hq, rfl⟩
theorem nameS_ext {n : Nat} {x : List UInt8 × Nat} (h : nameS t n = some x) : nameS (t ++ u) n = some x := by
  unfold nameS at *
  simp only [Option.bind_eq_some_iff] at *
  obtain ⟨a, ha, h⟩ := h
  exact ⟨a, lblS_ext _ _ _ ha, h⟩
theorem saidS_ext {nm : List UInt8} {ty ttl : Int} {n : Nat} {x : Rec × Nat} (h : saidS t nm ty ttl n = some x) : saidS (t ++ u) nm ty ttl n = some x := by
  unfold saidS at *
  by_cases h1 : ty = 1
  · rw [if_pos h1] at *
    simp only [Option.map_eq_some_iff] at *
    obtain ⟨a, ha, h⟩ := h
    exact ⟨a, byteS_ext ha, h⟩
  · rw [if_neg h1] at *
    by_cases h2 : ty = 2 ∨ ty = 3
    · rw [if_pos h2] at *
      simp only [Option.map_eq_some_iff] at *
      obtain ⟨a, ha, h⟩ := h
      exact ⟨a, nameS_ext ha, h⟩
    · rw [if_neg h2] at *; exact h
theorem recS_ext {n : Nat} {x : Rec × Nat} (h : recS t n = some x) : recS (t ++ u) n = some x := by
  unfold recS at *
  simp only [Option.bind_eq_some_iff] at *
  obtain ⟨a, ha, b, hb, c, hc, h⟩ := h
  refine ⟨a, nameS_ext ha, b, numS_ext hb, c, twoS_ext hc, ?_⟩
  split at h
  · rename_i hc'; rw [if_pos hc']; exact saidS_ext h
  · cases h
theorem recsS_ext : ∀ (k n : Nat) {x : List Rec × Nat}, recsS t k n = some x → recsS (t ++ u) k n = some x
  | 0, n, x, h => h
  | k + 1, n, x, h => by
    simp only [recsS, Option.bind_eq_some_iff, Option.map_eq_some_iff] at *
    obtain ⟨a, ha, l, hl, rfl⟩ := h
    exact ⟨a, recS_ext ha, l, recsS_ext k a.2 hl, rfl⟩
end

/-- A message's bytes and more are no message's. -/
theorem msgS_longer {t u : List UInt8} {m : Msg} (h : msgS t = some m) (hu : u ≠ []) : msgS (t ++ u) = none := by
  unfold msgS at *
  split at h
  case isFalse => cases h
  simp only [Option.bind_eq_some_iff] at h
  obtain ⟨id, i1, rep, i2, code, i3, nm, i4, ty, i5, ka, i6, kb, i7, kc, i8, la, i9, lb, i10, lc, i11, h⟩ := h
  split at h
  case isFalse => cases h
  rename_i hend
  split
  · simp only [twoS_ext i1, kindS_ext i2, numS_ext i3, nameS_ext i4, numS_ext i5, numS_ext i6, numS_ext i7, numS_ext i8, recsS_ext _ _ i9, recsS_ext _ _ i10, recsS_ext _ _ i11, Option.bind_some]
    have : 0 < u.length := List.length_pos_iff.2 hu
    rw [if_neg (by rw [List.length_append]; omega)]
  · rfl
/-- A part of a message's bytes is no message's. -/
theorem msgS_shorter {t : List UInt8} {m : Msg} (h : msgS t = some m) {k : Nat} (hk : k < t.length) : msgS (t.take k) = none := by
  cases h0 : msgS (t.take k) with
  | none => rfl
  | some m' =>
    have := msgS_longer (u := t.drop k) h0 (by intro e; have := congrArg List.length e; simp at this; omega)
    rw [List.take_append_drop, h] at this
    cases this

section
variable {T : List UInt8}
theorem at_byte {n : Nat} {b : UInt8} {r : List UInt8} (h : T.drop n = b :: r) : byteS T n = some ((b.toNat : Int), n + 1) ∧ T.drop (n + 1) = r := by
  have h0 : T[n]? = some b := by rw [← List.head?_drop, h]; rfl
  refine ⟨by unfold byteS; rw [h0]; rfl, ?_⟩
  have := congrArg (List.drop 1) h
  rw [List.drop_drop] at this
  simpa using this
theorem byte_toNat {x : Int} (h : 0 ≤ x ∧ x ≤ 255) : ((byte x).toNat : Int) = x := by
  unfold byte; rw [UInt8.toNat_ofNat']; omega
theorem byte_mod {x : Int} : ((byte x).toNat : Int) = x % 256 := by
  unfold byte; rw [UInt8.toNat_ofNat']; omega
theorem at_num {lo hi x : Int} {n : Nat} {r : List UInt8} (h : T.drop n = byte x :: r) (hx : lo ≤ x ∧ x ≤ hi) (h0 : 0 ≤ lo) (h1 : hi ≤ 255) : numS T lo hi n = some (x, n + 1) ∧ T.drop (n + 1) = r := by
  obtain ⟨e1, e2⟩ := at_byte h
  refine ⟨?_, e2⟩
  unfold numS
  rw [e1, Option.bind_some, byte_toNat (by omega), if_pos hx]
theorem at_two {x : Int} {n : Nat} {r : List UInt8} (h : T.drop n = byte x :: byte (x / 256) :: r) (hx : 0 ≤ x ∧ x ≤ 65535) : twoS T n = some (x, n + 2) ∧ T.drop (n + 2) = r := by
  obtain ⟨e1, e2⟩ := at_byte h
  obtain ⟨e3, e4⟩ := at_byte e2
  refine ⟨?_, e4⟩
  unfold twoS
  rw [e1, Option.bind_some]
  simp only
  rw [e3, Option.map_some, byte_mod, byte_mod]
  simp only [Option.some.injEq, Prod.mk.injEq, and_true]
  omega
theorem at_kind {b : Bool} {n : Nat} {r : List UInt8} (h : T.drop n = (if b then 114 else 113) :: r) : kindS T n = some (b, n + 1) ∧ T.drop (n + 1) = r := by
  obtain ⟨e1, e2⟩ := at_byte h
  refine ⟨?_, e2⟩
  unfold kindS
  rw [e1, Option.bind_some]
  cases b <;> rfl
theorem at_letters : ∀ (l : List UInt8) (n : Nat) (r : List UInt8), l.all low = true → T.drop n = l ++ r → lettersS T l.length n = some (l, n + l.length) ∧ T.drop (n + l.length) = r
  | [], n, r, _, h => ⟨rfl, h⟩
  | c :: l, n, r, hl, h => by
    rw [List.all_cons, Bool.and_eq_true] at hl
    obtain ⟨e1, e2⟩ := at_byte h
    obtain ⟨e3, e4⟩ := at_letters l (n + 1) r hl.2 e2
    have hc : 97 ≤ (c.toNat : Int) ∧ (c.toNat : Int) ≤ 122 := of_decide_eq_true hl.1
    have hlet : letS T n = some ((c.toNat : Int), n + 1) := by
      unfold letS
      rw [e1, Option.bind_some, if_neg (by simp only; omega), if_pos hc]
    have hlen : n + (c :: l).length = n + 1 + l.length := by rw [List.length_cons]; omega
    rw [hlen]
    refine ⟨?_, e4⟩
    show (letS T n).bind _ = _
    rw [hlet, Option.bind_some]
    simp only
    rw [e3]
    simp
theorem at_labs : ∀ (L : List (List UInt8)) (began n : Nat) (r : List UInt8), L.all labOk = true → T.drop n = (L.map labW).flatten ++ 0 :: r → lblS T began n = some (L, n + ((L.map labW).flatten.length + 1)) ∧ T.drop (n + ((L.map labW).flatten.length + 1)) = r
  | [], began, n, r, _, h => by
    obtain ⟨e1, e2⟩ := at_byte (b := 0) (r := r) (by simpa using h)
    refine ⟨?_, by simpa using e2⟩
    rw [lblS_step e1]
    simp
  | x :: L, began, n, r, hL, h => by
    rw [List.all_cons, Bool.and_eq_true] at hL
    have hlx := hL.1
    unfold labOk at hlx
    rw [Bool.and_eq_true] at hlx
    have h16 := of_decide_eq_true hlx.1
    rw [List.map_cons, List.flatten_cons, List.append_assoc] at h
    obtain ⟨e1, e2⟩ := at_byte (b := UInt8.ofNat (((x.length : Int)) % 256).toNat) (r := x ++ ((L.map labW).flatten ++ 0 :: r)) (by rw [h]; rfl)
    have ha : (((UInt8.ofNat (((x.length : Int)) % 256).toNat).toNat : Nat) : Int) = x.length := by rw [UInt8.toNat_ofNat']; omega
    rw [ha] at e1
    obtain ⟨e3, e4⟩ := at_letters x (n + 1) _ hlx.2 e2
    obtain ⟨e5, e6⟩ := at_labs L began (n + 1 + x.length) r hL.2 e4
    have hlen : n + (((x :: L).map labW).flatten.length + 1) = n + 1 + x.length + ((L.map labW).flatten.length + 1) := by
      rw [List.map_cons, List.flatten_cons, List.length_append]
      show n + ((labW x).length + _ + 1) = _
      simp only [labW, List.length_cons]
      omega
    have hlab : labelS T x.length (n + 1) = some (x, n + 1 + x.length) := by
      unfold labelS
      rw [if_pos (by omega), Int.toNat_natCast]; exact e3
    rw [hlen]
    refine ⟨?_, e6⟩
    rw [lblS_step e1, if_neg (by omega), if_neg (by omega), hlab]
    simp only
    rw [e5]
    rfl
theorem join_cutAcc : ∀ (s cur : List UInt8), dotJoin (cutAcc cur s) = cur ++ s
  | [], cur => by rw [cutAcc, dotJoin_first, List.append_nil]
  | c :: s, cur => by
    rw [cutAcc]
    split
    · rename_i hc
      have ih := join_cutAcc s []
      cases h : cutAcc [] s with
      | nil => exact absurd h (cutAcc_ne _ _)
      | cons y r =>
        rw [h] at ih
        rw [dotJoin_cons, ih, List.nil_append]
        have : c = 46 := by
          apply UInt8.toNat_inj.1
          rw [hc]; rfl
        rw [this]
    · rw [join_cutAcc s (cur ++ [c])]; simp
theorem join_labs (s : List UInt8) : dotJoin (labs s) = s := by
  unfold labs
  split
  · rename_i h; subst h; rfl
  · rw [join_cutAcc]; rfl
theorem at_name {s : List UInt8} {n : Nat} {r : List UInt8} (hs : nameOk s = true) (h : T.drop n = nameW s ++ r) : nameS T n = some (s, n + (nameW s).length) ∧ T.drop (n + (nameW s).length) = r := by
  unfold nameOk at hs
  rw [Bool.and_eq_true] at hs
  have hlen : (nameW s).length = ((labs s).map labW).flatten.length + 1 := by unfold nameW; simp
  obtain ⟨e1, e2⟩ := at_labs (labs s) n n r hs.2 (by rw [h]; unfold nameW; simp)
  rw [hlen]
  refine ⟨?_, e2⟩
  unfold nameS
  rw [e1, Option.bind_some, if_pos (of_decide_eq_true hs.1), join_labs]
theorem tl_empty {s : ByteArray} (h : (tl s).isEmpty = true) : s = ⟨#[]⟩ := tl_inj (by rw [List.isEmpty_iff.1 h]; rfl)
theorem at_said {nm tg : ByteArray} {ty ttl num : Int} {k : Nat} {q : List UInt8} (hs : saysOk ⟨nm, ty, ttl, num, tg⟩ = true) (h : T.drop k = saidW ⟨nm, ty, ttl, num, tg⟩ ++ q) :
    saidS T (tl nm) ty ttl k = some (⟨nm, ty, ttl, num, tg⟩, k + (saidW ⟨nm, ty, ttl, num, tg⟩).length) ∧ T.drop (k + (saidW ⟨nm, ty, ttl, num, tg⟩).length) = q := by
  by_cases h1 : ty = 1
  · have hw : saidW ⟨nm, ty, ttl, num, tg⟩ = [byte num] := if_pos h1
    have hq : (decide (0 ≤ num ∧ num ≤ 255) && (tl tg).isEmpty) = true := by rw [← show saysOk ⟨nm, ty, ttl, num, tg⟩ = _ from if_pos h1]; exact hs
    rw [Bool.and_eq_true] at hq
    rw [hw] at h ⊢
    obtain ⟨f1, f2⟩ := at_byte h
    refine ⟨?_, f2⟩
    unfold saidS
    rw [if_pos h1, f1, Option.map_some, byte_toNat (of_decide_eq_true hq.1), mk_tl, tl_empty hq.2]
    rfl
  · by_cases h2 : ty = 2 ∨ ty = 3
    · have hw : saidW ⟨nm, ty, ttl, num, tg⟩ = nameW (tl tg) := (if_neg h1).trans (if_pos h2)
      have hq : (decide (num = 0) && nameOk (tl tg)) = true := by rw [← show saysOk ⟨nm, ty, ttl, num, tg⟩ = _ from (if_neg h1).trans (if_pos h2)]; exact hs
      rw [Bool.and_eq_true] at hq
      rw [hw] at h ⊢
      obtain ⟨f1, f2⟩ := at_name hq.2 h
      refine ⟨?_, f2⟩
      unfold saidS
      rw [if_neg h1, if_pos h2, f1, Option.map_some, mk_tl, mk_tl, of_decide_eq_true hq.1]
    · by_cases h4 : ty = 4
      · have hw : saidW ⟨nm, ty, ttl, num, tg⟩ = [] := (if_neg h1).trans (if_neg h2)
        have hq : (decide (num = 0) && (tl tg).isEmpty) = true := by rw [← show saysOk ⟨nm, ty, ttl, num, tg⟩ = _ from (if_neg h1).trans ((if_neg h2).trans (if_pos h4))]; exact hs
        rw [Bool.and_eq_true] at hq
        rw [hw] at h ⊢
        refine ⟨?_, h⟩
        unfold saidS
        rw [if_neg h1, if_neg h2, mk_tl, tl_empty hq.2, of_decide_eq_true hq.1]
        rfl
      · rw [show saysOk ⟨nm, ty, ttl, num, tg⟩ = false from (if_neg h1).trans ((if_neg h2).trans (if_neg h4))] at hs
        cases hs
theorem says_ty {r : Rec} (hs : saysOk r = true) : 1 ≤ r.ty ∧ r.ty ≤ 4 := by
  unfold saysOk at hs
  split at hs
  · omega
  · split at hs
    · omega
    · split at hs
      · omega
      · cases hs
theorem at_rec {r : Rec} {n : Nat} {q : List UInt8} (hr : recOk r = true) (h : T.drop n = recW r ++ q) : recS T n = some (r, n + (recW r).length) ∧ T.drop (n + (recW r).length) = q := by
  unfold recOk at hr
  simp only [Bool.and_eq_true] at hr
  obtain ⟨⟨hn, ht⟩, hs⟩ := hr
  have ht := of_decide_eq_true ht
  unfold recW at h
  rw [List.append_assoc, List.append_assoc] at h
  obtain ⟨e1, e2⟩ := at_name hn h
  obtain ⟨e3, e4⟩ := at_num (lo := 1) (hi := 4) (by rw [e2]; rfl) (says_ty hs) (by omega) (by omega)
  obtain ⟨e5, e6⟩ := at_two (x := r.ttl) (by rw [e4]; rfl) (by omega)
  have hl : n + (recW r).length = n + (nameW (tl r.name)).length + 1 + 2 + (saidW r).length := by unfold recW; simp; omega
  obtain ⟨e7, e8⟩ := at_said (nm := r.name) (ty := r.ty) (ttl := r.ttl) (num := r.num) (tg := r.target) (q := q) hs (by rw [e6]; rfl)
  rw [hl]
  refine ⟨?_, e8⟩
  unfold recS
  rw [e1, Option.bind_some]
  simp only
  rw [e3, Option.bind_some]
  simp only
  rw [e5, Option.bind_some]
  simp only
  rw [if_pos ht]
  exact e7
theorem at_recs : ∀ (l : List Rec) (n : Nat) (q : List UInt8), l.all recOk = true → T.drop n = listW l ++ q → recsS T l.length n = some (l, n + (listW l).length) ∧ T.drop (n + (listW l).length) = q
  | [], n, q, _, h => ⟨rfl, h⟩
  | r :: l, n, q, hl, h => by
    rw [List.all_cons, Bool.and_eq_true] at hl
    have hw : listW (r :: l) = recW r ++ listW l := by unfold listW; simp
    rw [hw, List.append_assoc] at h
    obtain ⟨e1, e2⟩ := at_rec hl.1 h
    obtain ⟨e3, e4⟩ := at_recs l _ q hl.2 e2
    have hlen : n + (listW (r :: l)).length = n + (recW r).length + (listW l).length := by rw [hw, List.length_append]; omega
    rw [hlen]
    refine ⟨?_, e4⟩
    show (recS T n).bind _ = _
    rw [e1, Option.bind_some]
    simp only
    rw [e3]
    simp
end
theorem listOk_parts {l : List Rec} (h : listOk l = true) : l.length ≤ 10 ∧ l.all recOk = true := by
  unfold listOk at h
  rw [Bool.and_eq_true] at h
  exact ⟨of_decide_eq_true h.1, h.2⟩

/-- The bytes of a message are that message's, if they are not too many. -/
theorem msgS_msgW {m : Msg} (h : msgOk m = true) (hl : (msgW m).length ≤ 1000) : msgS (msgW m) = some m := by
  have hok := h
  unfold msgOk numsOk at hok
  simp only [Bool.and_eq_true] at hok
  obtain ⟨⟨⟨⟨⟨⟨n1, n2⟩, n3⟩, hn⟩, ha⟩, hs⟩, hm⟩ := hok
  have n1 := of_decide_eq_true n1
  have n2 := of_decide_eq_true n2
  have n3 := of_decide_eq_true n3
  obtain ⟨a1, a2⟩ := listOk_parts ha
  obtain ⟨s1, s2⟩ := listOk_parts hs
  obtain ⟨m1, m2⟩ := listOk_parts hm
  obtain ⟨T, hT⟩ : ∃ T, T = msgW m := ⟨_, rfl⟩
  have hd : T.drop 0 = byte m.id :: byte (m.id / 256) :: (if m.reply then 114 else 113) :: byte m.code :: (nameW (tl m.name) ++ (byte m.ty :: byte m.answer.length :: byte m.servers.length :: byte m.more.length :: (listW m.answer ++ (listW m.servers ++ (listW m.more ++ []))))) := by
    rw [hT]; unfold msgW; simp
  rw [← hT] at hl ⊢
  obtain ⟨e1, d1⟩ := at_two hd n1
  obtain ⟨e2, d2⟩ := at_kind d1
  obtain ⟨e3, d3⟩ := at_num (lo := 0) (hi := 3) d2 n2 (by omega) (by omega)
  obtain ⟨e4, d4⟩ := at_name hn d3
  obtain ⟨e5, d5⟩ := at_num (lo := 0) (hi := 4) d4 n3 (by omega) (by omega)
  obtain ⟨e6, d6⟩ := at_num (lo := 0) (hi := 10) d5 (by omega) (by omega) (by omega)
  obtain ⟨e7, d7⟩ := at_num (lo := 0) (hi := 10) d6 (by omega) (by omega) (by omega)
  obtain ⟨e8, d8⟩ := at_num (lo := 0) (hi := 10) d7 (by omega) (by omega) (by omega)
  obtain ⟨e9, d9⟩ := at_recs m.answer _ _ a2 d8
  obtain ⟨e10, d10⟩ := at_recs m.servers _ _ s2 d9
  obtain ⟨e11, d11⟩ := at_recs m.more _ _ m2 d10
  have hend := congrArg List.length d11
  simp only [List.length_drop, List.length_nil] at hend
  have hTl : T.length = 0 + 2 + 1 + 1 + (nameW (tl m.name)).length + 1 + 1 + 1 + 1 + (listW m.answer).length + (listW m.servers).length + (listW m.more).length := by
    rw [hT]; unfold msgW; simp; omega
  unfold msgS
  rw [if_pos hl]
  simp only [e1, e2, e3, e4, e5, e6, e7, e8, Int.toNat_natCast, e9, e10, e11, Option.bind_some]
  rw [if_pos hTl.symm, mk_tl]

/-- What is read is well-formed. -/
theorem nameS_ok {t : List UInt8} {n : Nat} {x : List UInt8 × Nat} (h : nameS t n = some x) : nameOk (tl (mk x.1)) = true := by
  unfold nameS at h
  simp only [Option.bind_eq_some_iff] at h
  obtain ⟨a, ha, h⟩ := h
  split at h
  · rename_i h5
    simp only [Option.some.injEq] at h
    subst h
    exact nameOk_join h5 (lblS_len t n n _ _ ha).2.1
  · cases h
theorem numS_in' {t : List UInt8} {lo hi : Int} {n : Nat} {x : Int × Nat} (h : numS t lo hi n = some x) : lo ≤ x.1 ∧ x.1 ≤ hi := by
  unfold numS at h
  simp only [Option.bind_eq_some_iff] at h
  obtain ⟨a, _, h⟩ := h
  split at h
  · rename_i hc; simp only [Option.some.injEq] at h; subst h; exact hc
  · cases h
theorem byteS_in {t : List UInt8} {n : Nat} {x : Int × Nat} (h : byteS t n = some x) : 0 ≤ x.1 ∧ x.1 ≤ 255 := by
  unfold byteS at h
  simp only [Option.map_eq_some_iff] at h
  obtain ⟨b, _, rfl⟩ := h
  have := b.toNat_lt
  simp only
  omega
theorem twoS_in {t : List UInt8} {n : Nat} {x : Int × Nat} (h : twoS t n = some x) : 0 ≤ x.1 ∧ x.1 ≤ 65535 := by
  unfold twoS at h
  simp only [Option.bind_eq_some_iff, Option.map_eq_some_iff] at h
  obtain ⟨a, ha, b, hb, rfl⟩ := h
  have := byteS_in ha
  have := byteS_in hb
  simp only
  omega
theorem recS_ok {t : List UInt8} {n : Nat} {x : Rec × Nat} (h : recS t n = some x) : recOk x.1 = true := by
  unfold recS at h
  simp only [Option.bind_eq_some_iff] at h
  obtain ⟨a, ha, ty, hty, ttl, _, h⟩ := h
  have hnm := nameS_ok ha
  have h14 := numS_in' hty
  split at h
  case isFalse => cases h
  rename_i httl
  unfold saidS at h
  by_cases h1 : ty.1 = 1
  · rw [if_pos h1] at h
    simp only [Option.map_eq_some_iff] at h
    obtain ⟨b, hb, rfl⟩ := h
    unfold recOk saysOk
    simp only [hnm, decide_eq_true httl, Bool.true_and]
    rw [if_pos h1, decide_eq_true (byteS_in hb)]
    rfl
  · rw [if_neg h1] at h
    by_cases h2 : ty.1 = 2 ∨ ty.1 = 3
    · rw [if_pos h2] at h
      simp only [Option.map_eq_some_iff] at h
      obtain ⟨b, hb, rfl⟩ := h
      unfold recOk saysOk
      simp only [hnm, decide_eq_true httl, Bool.true_and]
      rw [if_neg h1, if_pos h2, nameS_ok hb]
      rfl
    · rw [if_neg h2] at h
      simp only [Option.some.injEq] at h
      subst h
      unfold recOk saysOk
      simp only [hnm, decide_eq_true httl, Bool.true_and]
      rw [if_neg h1, if_neg h2, if_pos (by omega)]
      rfl
theorem recsS_ok {t : List UInt8} : ∀ (k n : Nat) {x : List Rec × Nat}, recsS t k n = some x → x.1.all recOk = true ∧ x.1.length = k
  | 0, n, x, h => by simp only [recsS, Option.some.injEq] at h; subst h; exact ⟨rfl, rfl⟩
  | k + 1, n, x, h => by
    simp only [recsS, Option.bind_eq_some_iff, Option.map_eq_some_iff] at h
    obtain ⟨a, ha, l, hl, rfl⟩ := h
    obtain ⟨h1, h2⟩ := recsS_ok k a.2 hl
    refine ⟨?_, by simp [h2]⟩
    simp only [List.all_cons, recS_ok ha, h1, Bool.and_self]
theorem listOk_of {t : List UInt8} {k : Int × Nat} {n n' : Nat} {x : List Rec × Nat} (hk : numS t 0 10 n' = some k) (h : recsS t k.1.toNat n = some x) : listOk x.1 = true := by
  obtain ⟨h1, h2⟩ := recsS_ok _ _ h
  have := numS_in' hk
  unfold listOk
  rw [h1, Bool.and_true]
  exact decide_eq_true (by omega)
theorem msgS_ok {t : List UInt8} {m : Msg} (h : msgS t = some m) : msgOk m = true := by
  unfold msgS at h
  split at h
  case isFalse => cases h
  simp only [Option.bind_eq_some_iff] at h
  obtain ⟨id, i1, rep, i2, code, i3, nm, i4, ty, i5, ka, i6, kb, i7, kc, i8, la, i9, lb, i10, lc, i11, h⟩ := h
  split at h
  case isFalse => cases h
  simp only [Option.some.injEq] at h
  subst h
  unfold msgOk numsOk
  simp only [decide_eq_true (twoS_in i1), decide_eq_true (numS_in' i3), decide_eq_true (numS_in' i5), nameS_ok i4, listOk_of i6 i9, listOk_of i7 i10, listOk_of i8 i11, Bool.and_self]
end Go.Proofs.YtefdokkadckbbaaDoor
