/- Qd -/
import Derived.Test.YtefdokkadckbbaaGreatDoorZ24
namespace Go.Proofs.YtefdokkadckbbaaGreatDoor
open Go.RowKit
set_option maxRecDepth 100000
theorem own_set {w : World} {base e size g cap n : Nat} {xs : List Value} (h : w.ownsRow base e size (.slice (some ⟨g, 0, none⟩) n cap) n xs) (j : Nat) (u : Value) : (w.setCell ⟨g, j, none⟩ u).ownsRow base e size (.slice (some ⟨g, 0, none⟩) n cap) n (xs.set j u) := by
 obtain ⟨h1, ⟨h2, _⟩ | ⟨g', cap', cur', hv, hlo, hg, hnc, hcm, hcs, ht⟩⟩ := h
 ·cases h2
 simp at hv
 obtain ⟨rfl, rfl⟩ := hv
 refine ⟨by simpa using h1, .inr ⟨g, cap, _, rfl, hlo, heap_setCell_same w g j _ e u hg, hnc, hcm, by simpa using hcs, ?_⟩⟩
 rw [← ht, Array.toList_setIfInBounds, List.take_set]
theorem tcells_set (nm : ByteArray) {L : List (Int × Int)} {i : Nat} {a n : Int} (h : L[i]? = some (a, n)) (n' : Int) : tcells nm (L.set i (a, n')) = (tcells nm L).set (i * 4 + 3) (.int .i64 n') := by
 induction L generalizing i with
 | nil => simp at h
 | cons q l ih =>
  have e : ∀ q : Int × Int, ∀ l, tcells nm (q :: l) = [Value.string nm, .string ⟨#[]⟩, .int .i64 q.1, .int .i64 q.2] ++ tcells nm l := fun q l => by simp [tcells]
  cases i with
  | zero =>
   simp only [List.getElem?_cons_zero, Option.some.injEq] at h
   subst h
   rw [List.set_cons_zero, e, e]
   rfl
  | succ i =>
   rw [List.set_cons_succ, e, e, ih (by simpa using h), List.set_append_right _ _ (by simp; omega)]
   congr 2
   simp only [List.length_cons, List.length_nil]
   omega
theorem cnt_set_ne {L : List (Int × Int)} {a n n' b : Int} {i : Nat} (h : L[i]? = some (a, n)) (hb : b ≠ a) : cntOf (L.set i (a, n')) b = cntOf L b := by
 induction L generalizing i with
 | nil => simp at h
 | cons q l ih =>
  cases i with
  | zero =>
   simp only [List.getElem?_cons_zero, Option.some.injEq] at h
   subst h
   rw [List.set_cons_zero]
   unfold cntOf
   rw [List.find?_cons_of_neg (by simpa using fun h : a = b => hb h.symm), List.find?_cons_of_neg (by simpa using fun h : a = b => hb h.symm)]
  | succ i =>
   have := ih (i := i) (by simpa using h)
   rw [List.set_cons_succ]
   unfold cntOf at this ⊢
   by_cases hq : q.1 = b
   ·rw [List.find?_cons_of_pos (by simpa using hq), List.find?_cons_of_pos (by simpa using hq)]
   ·rw [List.find?_cons_of_neg (by simpa using hq), List.find?_cons_of_neg (by simpa using hq)]
    exact this
theorem cnt_set {L : List (Int × Int)} {a n : Int} {i : Nat} (h : L[i]? = some (a, n)) (hj : ∀ j, j < i → ∀ p, L[j]? = some p → p.1 ≠ a) : cntOf (L.set i (a, n + 1)) = bumped (cntOf L) a := by
 funext b
 unfold bumped
 split
 ·rename_i e
  subst e
  rw [cnt_first h hj]
  refine cnt_first (i := i) (by rw [List.getElem?_set_self (List.getElem?_eq_some_iff.1 h).1]) fun j hji p hp => hj j hji p ?_
  rwa [List.getElem?_set_ne (by omega)] at hp
 ·exact cnt_set_ne h ‹_›
theorem cnt_snoc (L : List (Int × Int)) (a : Int) : cntOf (L ++ [(a, 0)]) = cntOf L := by
 funext b
 unfold cntOf
 rw [List.find?_append]
 cases L.find? (fun p => p.1 == b) with
 | some p => rfl
 | none =>
  by_cases h : a = b
  ·simp [h]
  ·simp [h]
theorem keys_set {L : List (Int × Int)} {a n n' : Int} {i : Nat} (h : L[i]? = some (a, n)) : (L.set i (a, n')).map (·.1) = L.map (·.1) := by
 induction L generalizing i with
 | nil => simp at h
 | cons q l ih =>
  cases i with
  | zero =>
   simp only [List.getElem?_cons_zero, Option.some.injEq] at h
   subst h
   rfl
  | succ i => rw [List.set_cons_succ, List.map_cons, List.map_cons, ih (by simpa using h)]
def TriedL (L L' : List (Int × Int)) (a : Int) : Prop := (L'.map (·.1) = L.map (·.1) ∨ (L'.map (·.1) = L.map (·.1) ++ [a] ∧ a ∉ L.map (·.1))) ∧ a ∈ L'.map (·.1)
theorem part_step {j : Nat} {hs : List Int} {L L' : List (Int × Int)} {a : Int} (h : PartN j hs L) (ha : hs[j]? = some a) (hT : TriedL L L' a) : PartN (j + 1) hs L' := by
 obtain ⟨k, h1, h2, h3, h4⟩ := h
 have hj : j < hs.length := (List.getElem?_eq_some_iff.1 ha).1
 obtain ⟨hT1, hT2⟩ := hT
 by_cases hk : j < k
 ·rcases hT1 with hT1 | ⟨_, hT1⟩
  ·refine ⟨k, hk, h2, ?_, fun i b hi hb => by rw [hT1]; exact h4 i b hi hb⟩
   have := congrArg List.length hT1
   simp only [List.length_map] at this
   omega
  ·exact absurd (h4 j a hk ha) hT1
 ·obtain rfl : k = j := by omega
  refine ⟨k + 1, Nat.le_refl _, hj, ?_, fun i b hi hb => ?_⟩
  ·rcases hT1 with hT1 | ⟨hT1, _⟩
   ·have := congrArg List.length hT1
    simp only [List.length_map] at this
    omega
   ·have := congrArg List.length hT1
    simp only [List.length_map, List.length_append, List.length_cons, List.length_nil] at this
    omega
  ·by_cases hik : i < k
   ·have := h4 i b hik hb
    rcases hT1 with hT1 | ⟨hT1, _⟩
    ·rw [hT1]; exact this
    ·rw [hT1]; exact List.mem_append_left _ this
   ·obtain rfl : i = k := by omega
    rw [ha] at hb
    cases hb
    exact hT2
theorem TimesR.tried {L L' : List (Int × Int)} {a n : Int} {i : Nat} (hi : L'[i]? = some (a, n)) (h : L' = L ∨ (L' = L ++ [(a, 0)] ∧ a ∉ L.map (·.1))) : TriedL L L' a ∧ cntOf L' = cntOf L := by
 have hm : a ∈ L'.map (·.1) := List.mem_map.2 ⟨_, List.mem_of_getElem? hi, rfl⟩
 rcases h with rfl | ⟨rfl, hn⟩
 ·exact ⟨⟨.inl rfl, hm⟩, rfl⟩
 ·exact ⟨⟨.inr ⟨by simp, hn⟩, hm⟩, cnt_snoc L a⟩
theorem times_facts {w w1 : World} {y tb g i : Nat} {nm : ByteArray} {ty a : Int} {av : Option Addr} {cv : Nat} {L : List (Int × Int)} {ycs tcs : Array Value} (hy : w.heap[y]? = some (.cells ycs 163 (0, 0))) (ht : w.heap[tb]? = some (.cells tcs 220 (0, 0)))
  (hg : w.heap[g]? = some (rgoalO nm ty (.slice av L.length cv))) (hv : w.ownsRow 0 386 4 (.slice av L.length cv) L.length (tcells nm L)) (h : TimesR g nm ty (.slice av L.length cv) L a w w1 i) :
  ∃ (gb cv' : Nat) (L' : List (Int × Int)), w1.heap[y]? = some (.cells ycs 163 (0, 0)) ∧ w1.heap[tb]? = some (.cells tcs 220 (0, 0)) ∧ w1.heap[g]? = some (rgoalO nm ty (.slice (some ⟨gb, 0, none⟩) L'.length cv')) ∧ w1.ownsRow 0 386 4 (.slice (some ⟨gb, 0, none⟩) L'.length cv') L'.length (tcells nm L') ∧
   L'[i]? = some (a, cntOf L a) ∧ (∀ j, j < i → ∀ p, L'[j]? = some p → p.1 ≠ a) ∧ i < L'.length ∧ w1.cell? ⟨gb, i * 4 + 3, none⟩ = some (.int .i64 (cntOf L a)) ∧ L'.length ≤ L.length + 1 ∧ TriedL L L' a ∧ cntOf L' = cntOf L ∧
   Keeps (fun k => k = g ∨ (Value.slice av L.length cv).ownBlock = some k) w w1 ∧ ((Value.slice av L.length cv).ownBlock = some gb ∨ w.heap.size ≤ gb) := by
 obtain ⟨gb, cv', L', q1, q2, q3, q4, q5, q6, q7⟩ := h
 have hk : ∀ (k : Nat) (c : Array Value) (e : TypeId), e ≠ 226 → e ≠ 386 → w.heap[k]? = some (.cells c e (0, 0)) → w1.heap[k]? = some (.cells c e (0, 0)) := fun k c e h1 h2 hk =>
  (q6.block k (Array.getElem?_eq_some_iff.1 hk).1 (by rintro (rfl | h); exact kind_ne hk hg h1 rfl; exact own_far hv hk (Ne.symm h2) h.symm)).trans hk
 have hlen : L'.length ≤ L.length + 1 := by
  rcases q5 with rfl | ⟨rfl, _⟩
  ·omega
  ·simp
 exact ⟨gb, cv', L', hk y _ 163 (by decide) (by decide) hy, hk tb _ 220 (by decide) (by decide) ht, q1, q2, q3, q4, (List.getElem?_eq_some_iff.1 q3).1, own_cell q2 (tcells_get nm L' q3).2.2.2, hlen, (TimesR.tried q3 q5).1, (TimesR.tried q3 q5).2, q6, q7⟩
theorem tries_mem {X Z : World} {y tb g gb i cv' : Nat} {vh vt vs vr va vs' vm gs : Value} {en tr pa mx now rid asked num id : Int} {nm : ByteArray} {ty sends wi wa at_ : Int} {wn : ByteArray} {wt : Int} {wz : ByteArray} {S : List (Int × ByteArray)} {L' : List (Int × Int)} {a n r1 : Int}
  (hy : X.heap[y]? = some (rresO vh en tr pa mx now rid asked vt vs vr)) (ht : X.heap[tb]? = some (rtaskO num id nm ty va vs' vm gs sends wi wa at_ wn wt wz)) (hg : X.heap[g]? = some (rgoalO nm ty (.slice (some ⟨gb, 0, none⟩) L'.length cv')))
  (hv : X.ownsRow 0 386 4 (.slice (some ⟨gb, 0, none⟩) L'.length cv') L'.length (tcells nm L')) (hs : X.ownsRow 0 105 2 vs S.length (pcells S)) (hi : L'[i]? = some (a, n))
  (hZ : ((((((((X.setCell ⟨gb, i * 4 + 3, none⟩ (.int .i64 (n + 1))).setCell ⟨tb, 10, none⟩ (.int .i64 (sends + 1))).setCell ⟨y, 8, none⟩ (.int .i64 r1)).setCell ⟨tb, 11, none⟩ (.int .i64 r1)).setCell ⟨tb, 12, none⟩ (.int .i64 a)).setCell ⟨tb, 13, none⟩ (.int .i64 now)).setCell ⟨tb, 14, none⟩ (.string nm)).setCell ⟨tb, 15, none⟩ (.int .i64 ty)).setCell ⟨tb, 16, none⟩ (.string ⟨#[]⟩) = Z) :
  Z.heap[y]? = some (rresO vh en tr pa mx now r1 asked vt vs vr) ∧ Z.heap[tb]? = some (rtaskO num id nm ty va vs' vm gs (sends + 1) r1 a now nm ty ⟨#[]⟩) ∧ Z.heap[g]? = some (rgoalO nm ty (.slice (some ⟨gb, 0, none⟩) L'.length cv')) ∧
   Z.ownsRow 0 386 4 (.slice (some ⟨gb, 0, none⟩) L'.length cv') L'.length (tcells nm (L'.set i (a, n + 1))) ∧ Z.ownsRow 0 105 2 vs S.length (pcells S) ∧ Keeps (fun k => k = y ∨ k = tb ∨ k = gb) X Z := by
 obtain ⟨cur, hc⟩ := own_blk hv (k := gb) rfl
 have n1 : y ≠ tb := kind_ne hy ht (by decide)
 have n2 : y ≠ gb := kind_ne hy hc (by decide)
 have n3 : tb ≠ gb := kind_ne ht hc (by decide)
 have n4 : g ≠ y := kind_ne hg hy (by decide)
 have n5 : g ≠ tb := kind_ne hg ht (by decide)
 have n6 : g ≠ gb := kind_ne hg hc (by decide)
 have o : ∀ (W : World) (k b o : Nat) (u : Value), k ≠ b → (W.setCell ⟨b, o, none⟩ u).heap[k]? = W.heap[k]? := fun W k b o u h => Below.heap_setCell W ⟨b, o, none⟩ u k h
 have s : ∀ (W : World) (b o : Nat) (c : Array Value) (e : TypeId) (u : Value), W.heap[b]? = some (.cells c e (0, 0)) → (W.setCell ⟨b, o, none⟩ u).heap[b]? = some (.cells (c.setIfInBounds o u) e (0, 0)) := fun W b o c e u h => heap_setCell_same W b o c e u h
 have k0 : ∀ k, k ≠ y → k ≠ tb → k ≠ gb → Z.heap[k]? = X.heap[k]? := by
  intro k h1 h2 h3
  rw [← hZ]
  rw [o _ k tb _ _ h2, o _ k tb _ _ h2, o _ k tb _ _ h2, o _ k tb _ _ h2, o _ k tb _ _ h2, o _ k tb _ _ h2, o _ k y _ _ h1, o _ k tb _ _ h2, o _ k gb _ _ h3]
 refine ⟨?_, ?_, ?_, ?_, ?_, ?_⟩
 ·rw [← hZ, o _ y tb _ _ n1, o _ y tb _ _ n1, o _ y tb _ _ n1, o _ y tb _ _ n1, o _ y tb _ _ n1, o _ y tb _ _ n1]
  have e := s _ y 8 _ 163 (.int .i64 r1) (((o _ y tb 10 (.int .i64 (sends + 1)) n1).trans (o X y gb (i * 4 + 3) (.int .i64 (n + 1)) n2)).trans hy)
  rw [e]
  simp
 ·rw [← hZ]
  have e0 := s _ tb 10 _ 220 (.int .i64 (sends + 1)) ((o X tb gb (i * 4 + 3) (.int .i64 (n + 1)) n3).trans ht)
  have e1 := (o _ tb y 8 (.int .i64 r1) n1.symm).trans e0
  have e2 := s _ tb 16 _ 220 (.string ⟨#[]⟩) (s _ tb 15 _ 220 (.int .i64 ty) (s _ tb 14 _ 220 (.string nm) (s _ tb 13 _ 220 (.int .i64 now) (s _ tb 12 _ 220 (.int .i64 a) (s _ tb 11 _ 220 (.int .i64 r1) e1)))))
  rw [e2]
  simp
 ·rw [k0 g n4 n5 n6]; exact hg
 ·rw [tcells_set nm hi]
  refine own_same (own_set hv (i * 4 + 3) (.int .i64 (n + 1))) fun k e => ?_
  obtain rfl : gb = k := by simpa [Value.ownBlock] using e
  rw [← hZ]
  rw [o _ gb tb _ _ n3.symm, o _ gb tb _ _ n3.symm, o _ gb tb _ _ n3.symm, o _ gb tb _ _ n3.symm, o _ gb tb _ _ n3.symm, o _ gb tb _ _ n3.symm, o _ gb y _ _ n2.symm, o _ gb tb _ _ n3.symm]
 ·refine own_same hs fun k e => ?_
  obtain ⟨c, hk⟩ := own_blk hs e
  exact k0 k (kind_ne hk hy (by decide)) (kind_ne hk ht (by decide)) (kind_ne hk hc (by decide))
 ·rw [← hZ]
  exact ((((((((((Keeps.refl _ X).set (.inl (.inr (.inr rfl))) _ _).set (.inl (.inr (.inl rfl))) _ _).set (.inl (.inl rfl)) _ _).set (.inl (.inr (.inl rfl))) _ _).set (.inl (.inr (.inl rfl))) _ _).set (.inl (.inr (.inl rfl))) _ _).set (.inl (.inr (.inl rfl))) _ _).set (.inl (.inr (.inl rfl))) _ _).set (.inl (.inr (.inl rfl))) _ _)
theorem tries_end {w Z w2 : World} {y tb g gb cv' cv sc : Nat} {vh vt vr va vs' vm gs : Value} {en tr pa mx now r1 asked num id : Int} {nm : ByteArray} {ty sends : Int} {sa av : Option Addr} {S : List (Int × ByteArray)} {L L' : List (Int × Int)} {a : Int}
  (zy : Z.heap[y]? = some (rresO vh en tr pa mx now r1 asked vt (.slice sa S.length sc) vr)) (zt : Z.heap[tb]? = some (rtaskO num id nm ty va vs' vm gs (sends + 1) r1 a now nm ty ⟨#[]⟩)) (zg : Z.heap[g]? = some (rgoalO nm ty (.slice (some ⟨gb, 0, none⟩) L'.length cv')))
  (zr : Z.ownsRow 0 386 4 (.slice (some ⟨gb, 0, none⟩) L'.length cv') L'.length (tcells nm L')) (zs : Z.ownsRow 0 105 2 (.slice sa S.length sc) S.length (pcells S)) (hb : Below Z.heap.size Z w2)
  (hkZ : Keeps (fun k => k = y ∨ k = tb ∨ k = g ∨ (Value.slice av L.length cv).ownBlock = some k ∨ (Value.slice sa S.length sc).ownBlock = some k) w Z) (hgb : (Value.slice av L.length cv).ownBlock = some gb ∨ w.heap.size ≤ gb) (hcnt : cntOf L' = bumped (cntOf L) a) (hTL : TriedL L L' a) :
  ∀ o w6 gs' cs', w6.ownsRow 0 105 2 (.slice (some ⟨gs', 0, none⟩) (S.length + 1) cs') (S.length + 1) (pcells S ++ [.int .i64 a, .string (qB r1 nm ty)]) → Lies (w2.alloc o) w6 (.slice sa S.length sc) gs' →
   w6.cell? ⟨y, 11, none⟩ = some (.slice sa S.length sc) ∧ w6.frozen? ⟨y, 11, none⟩ = false ∧
   ((w6.setCell ⟨y, 11, none⟩ (.slice (some ⟨gs', 0, none⟩) (S.length + 1) cs')).heap[y]? = some (rresO vh en tr pa mx now r1 asked vt (.slice (some ⟨gs', 0, none⟩) (S.length + 1) cs') vr) ∧ (w6.setCell ⟨y, 11, none⟩ (.slice (some ⟨gs', 0, none⟩) (S.length + 1) cs')).heap[tb]? = some (rtaskO num id nm ty va vs' vm gs (sends + 1) r1 a now nm ty ⟨#[]⟩) ∧ (w6.setCell ⟨y, 11, none⟩ (.slice (some ⟨gs', 0, none⟩) (S.length + 1) cs')).heap[g]? = some (rgoalO nm ty (.slice (some ⟨gb, 0, none⟩) L'.length cv')) ∧
   (w6.setCell ⟨y, 11, none⟩ (.slice (some ⟨gs', 0, none⟩) (S.length + 1) cs')).ownsRow 0 386 4 (.slice (some ⟨gb, 0, none⟩) L'.length cv') L'.length (tcells nm L') ∧ (w6.setCell ⟨y, 11, none⟩ (.slice (some ⟨gs', 0, none⟩) (S.length + 1) cs')).ownsRow 0 105 2 (.slice (some ⟨gs', 0, none⟩) (S.length + 1) cs') (S.length + 1) (pcells (S ++ [(a, qB r1 nm ty)])) ∧ cntOf L' = bumped (cntOf L) a ∧ TriedL L L' a ∧
   Keeps (fun k => k = y ∨ k = tb ∨ k = g ∨ (Value.slice av L.length cv).ownBlock = some k ∨ (Value.slice sa S.length sc).ownBlock = some k) w (w6.setCell ⟨y, 11, none⟩ (.slice (some ⟨gs', 0, none⟩) (S.length + 1) cs')) ∧ ((Value.slice av L.length cv).ownBlock = some gb ∨ w.heap.size ≤ gb) ∧ ((Value.slice sa S.length sc).ownBlock = some gs' ∨ w.heap.size ≤ gs')) := by
 intro o w6 gs' cs' r6 L6
 have hA : ∀ (k : Nat) (c : Array Value) (e : TypeId), e ≠ 105 → Z.heap[k]? = some (.cells c e (0, 0)) → w6.heap[k]? = some (.cells c e (0, 0)) := fun k c e he hk => by
  have lk : k < Z.heap.size := (Array.getElem?_eq_some_iff.1 hk).1
  have := hb.size
  exact (L6.1.block k (by simp; omega) (own_far zs hk he.symm)).trans ((Below.heap_alloc w2 o k (by omega)).trans ((hb.block k lk).trans hk))
 have e6 := hA y _ 163 (by decide) zy
 have hB : ∀ (k : Nat) (c : Array Value) (e : TypeId), e ≠ 105 → e ≠ 163 → Z.heap[k]? = some (.cells c e (0, 0)) → (w6.setCell ⟨y, 11, none⟩ (.slice (some ⟨gs', 0, none⟩) (S.length + 1) cs')).heap[k]? = some (.cells c e (0, 0)) := fun k c e h1 h2 hk =>
  (Below.heap_setCell w6 ⟨y, 11, none⟩ _ k (kind_ne hk zy h2)).trans (hA k c e h1 hk)
 refine ⟨by rw [cell_blk e6]; rfl, frozen_of_row _ y 11 _ 163 e6, ?_, hB tb _ 220 (by decide) (by decide) zt, hB g _ 226 (by decide) (by decide) zg, ?_, ?_, hcnt, hTL, ?_, hgb, ?_⟩
 ·have := heap_setCell_same w6 y 11 _ 163 (.slice (some ⟨gs', 0, none⟩) (S.length + 1) cs') e6
  simpa using this
 ·refine own_same zr fun k e => ?_
  obtain ⟨c, hk⟩ := own_blk zr e
  rw [hB k _ 386 (by decide) (by decide) hk, hk]
 ·rw [pcells_snoc]
  refine own_same r6 fun k e => Below.heap_setCell _ _ _ _ ?_
  rintro rfl
  exact own_far r6 e6 (by decide) e.symm
 ·exact (((hkZ.below hb).alloc o).grown L6.1 (fun j e => .inl (.inr (.inr (.inr (.inr e)))))).set (.inl (.inl rfl)) 11 _
 ·have h1 := hkZ.size
  have h2 := hb.size
  rcases L6.2.1 with h | ⟨h, _⟩
  ·exact .inl h
  ·exact .inr (by simp at h; omega)
set_option maxHeartbeats 4000000 in
theorem rtries_no (y tb g : Nat) (vh vt vs vr va vs' vm gs : Value) (en tr pa mx now rid asked num id : Int) (nm : ByteArray) (ty sends wi wa at_ : Int) (wn : ByteArray) (wt : Int) (wz : ByteArray) (av : Option Addr) (cv : Nat) (L : List (Int × Int)) (a : Int) (w : World)
  (hy : w.heap[y]? = some (rresO vh en tr pa mx now rid asked vt vs vr)) (ht : w.heap[tb]? = some (rtaskO num id nm ty va vs' vm gs sends wi wa at_ wn wt wz)) (hg : w.heap[g]? = some (rgoalO nm ty (.slice av L.length cv)))
  (hv : w.ownsRow 0 386 4 (.slice av L.length cv) L.length (tcells nm L)) (hL : L.length ≤ 1000) (hc : tr ≤ cntOf L a) :
  Calls Tryz.prog 235 #[.pointer (some ⟨y, 0, none⟩), .pointer (some ⟨tb, 0, none⟩), .pointer (some ⟨g, 0, none⟩), .string ⟨#[]⟩, .string ⟨#[]⟩, .int .i64 a] w fun e w' => e = .returned (.bool false) ∧ ∃ i, TimesR g nm ty (.slice av L.length cv) L a w w' i := by
 have hT := hid (times_any g nm ty a av cv L w hg hv (by omega))
 have HX : Hid (∀ w1 i, TimesR g nm ty (.slice av L.length cv) L a w w1 i → ∃ gb n c, w1.cell? ⟨g, 4, none⟩ = some (.slice (some ⟨gb, 0, none⟩) n c) ∧ i < n ∧ w1.cell? ⟨gb, i * 4 + 3, none⟩ = some (.int .i64 (cntOf L a)) ∧ w1.cell? ⟨y, 2, none⟩ = some (.int .i64 tr) ∧ ∀ m, TimesR g nm ty (.slice av L.length cv) L a w (w1.drewN m) i) := by
  intro w1 i h
  obtain ⟨gb, cv', L', q1, q2, q3, q4, q5, q6, q7, q8, q9, q10, q11, q12, q13⟩ := times_facts hy ht hg hv h
  refine ⟨gb, _, _, (cells6 q3).2.2.2.2.1, q7, q8, by rw [cell_blk q1]; rfl, fun m => ?_⟩
  obtain ⟨gb, cv', L', r1, r2, r3, r4, r5, r6, r7⟩ := h
  exact ⟨gb, cv', L', r1, own_same r2 fun _ _ => rfl, r3, r4, r5, ⟨r6.os, r6.tape, r6.output, r6.size, r6.block⟩, r7⟩
 clear hy ht hg hv
 go_enter Tryz.func235, Tryz.ntmps235
 go_wp2_with fail
 refine hT.out.mono ?_
 rintro e w1 ⟨i, rfl, hTR⟩
 obtain ⟨gb, n, c, q1, q2, q3, q4, q5⟩ := HX.out w1 i hTR
 have HQ := hid q5
 clear q5 HX hT hTR
 have hd : decide (cntOf L a ≥ tr) = true := by simpa using hc
 go_wp2
 go_quiet (fail)
 go_wp2
 go_ret
 exact ⟨rfl, i, HQ.out _⟩
set_option maxHeartbeats 4000000 in
theorem rtries_send (y tb g : Nat) (vh vt vr va vs' vm gs : Value) (en tr pa mx now rid asked num id : Int) (nm : ByteArray) (ty sends wi wa at_ : Int) (wn : ByteArray) (wt : Int) (wz : ByteArray) (sa av : Option Addr) (sc cv : Nat) (S : List (Int × ByteArray)) (L : List (Int × Int)) (a : Int) (w : World)
  (hy : w.heap[y]? = some (rresO vh en tr pa mx now rid asked vt (.slice sa S.length sc) vr)) (ht : w.heap[tb]? = some (rtaskO num id nm ty va vs' vm gs sends wi wa at_ wn wt wz)) (hg : w.heap[g]? = some (rgoalO nm ty (.slice av L.length cv)))
  (hv : w.ownsRow 0 386 4 (.slice av L.length cv) L.length (tcells nm L)) (hs : w.ownsRow 0 105 2 (.slice sa S.length sc) S.length (pcells S)) (hnm : nm.size ≤ 1048576) (hSl : S.length ≤ 33554432) (hL : L.length ≤ 1000) (hrid : 0 ≤ rid ∧ rid ≤ 65535) (hsd : 0 ≤ sends ∧ sends < 16) (hc : cntOf L a < tr) (hc0 : 0 ≤ cntOf L a ∧ cntOf L a ≤ 3) :
  Calls Tryz.prog 235 #[.pointer (some ⟨y, 0, none⟩), .pointer (some ⟨tb, 0, none⟩), .pointer (some ⟨g, 0, none⟩), .string ⟨#[]⟩, .string ⟨#[]⟩, .int .i64 a] w fun e w' => e = .returned (.bool true) ∧ ∃ (gb cv' : Nat) (L' : List (Int × Int)) (gs' cs' : Nat),
   w'.heap[y]? = some (rresO vh en tr pa mx now ((rid + 1) % 65536) asked vt (.slice (some ⟨gs', 0, none⟩) (S.length + 1) cs') vr) ∧ w'.heap[tb]? = some (rtaskO num id nm ty va vs' vm gs (sends + 1) ((rid + 1) % 65536) a now nm ty ⟨#[]⟩) ∧ w'.heap[g]? = some (rgoalO nm ty (.slice (some ⟨gb, 0, none⟩) L'.length cv')) ∧
   w'.ownsRow 0 386 4 (.slice (some ⟨gb, 0, none⟩) L'.length cv') L'.length (tcells nm L') ∧ w'.ownsRow 0 105 2 (.slice (some ⟨gs', 0, none⟩) (S.length + 1) cs') (S.length + 1) (pcells (S ++ [(a, qB ((rid + 1) % 65536) nm ty)])) ∧ cntOf L' = bumped (cntOf L) a ∧ TriedL L L' a ∧
   Keeps (fun k => k = y ∨ k = tb ∨ k = g ∨ (Value.slice av L.length cv).ownBlock = some k ∨ (Value.slice sa S.length sc).ownBlock = some k) w w' ∧ ((Value.slice av L.length cv).ownBlock = some gb ∨ w.heap.size ≤ gb) ∧ ((Value.slice sa S.length sc).ownBlock = some gs' ∨ w.heap.size ≤ gs') := by
 obtain ⟨i0, hi0, hz0, hz1, hz2⟩ := info_parts infoP
 have hu31 := u31
 have hT := hid (times_any g nm ty a av cv L w hg hv (by omega))
 obtain ⟨r1, hr1⟩ : ∃ r1, (rid + 1) % 65536 = r1 := ⟨_, rfl⟩
 have hw1 : IntKind.i64.wrap (rid + 1) = rid + 1 := by rw [IntKind.wrap_i64]; omega
 have hw2 : (rid + 1).tmod 65536 = r1 := by rw [Int.tmod_eq_emod_of_nonneg (by omega)]; exact hr1
 have hw3 : IntKind.i64.wrap r1 = r1 := by rw [IntKind.wrap_i64]; omega
 have hw4 : IntKind.i64.wrap (sends + 1) = sends + 1 := by rw [IntKind.wrap_i64]; omega
 have hw5 : IntKind.i64.wrap (cntOf L a + 1) = cntOf L a + 1 := by rw [IntKind.wrap_i64]; omega
 have hd2 : decide (sends ≥ 16) = false := by simp; omega
 have hd1 : decide (cntOf L a ≥ tr) = false := by simp; omega
 rw [hr1]
 have HX : Hid (∀ w1 i, TimesR g nm ty (.slice av L.length cv) L a w w1 i → ∃ (gb cv' : Nat) (L' : List (Int × Int)), w1.cell? ⟨g, 4, none⟩ = some (.slice (some ⟨gb, 0, none⟩) L'.length cv') ∧ w1.cell? ⟨g, 1, none⟩ = some (.string nm) ∧ w1.cell? ⟨g, 2, none⟩ = some (.int .i64 ty) ∧ i < L'.length ∧ w1.cell? ⟨gb, i * 4 + 3, none⟩ = some (.int .i64 (cntOf L a)) ∧ w1.frozen? ⟨gb, i * 4 + 3, none⟩ = false ∧ w1.cell? ⟨y, 2, none⟩ = some (.int .i64 tr) ∧
   (w1.cell? ⟨y, 7, none⟩ = some (.int .i64 now) ∧ w1.cell? ⟨y, 8, none⟩ = some (.int .i64 rid) ∧ (∀ k, w1.frozen? ⟨y, k, none⟩ = false)) ∧ (∃ c11 c12 c13 c14 c15 c16, w1.cell? ⟨tb, 10, none⟩ = some (.int .i64 sends) ∧ w1.cell? ⟨tb, 11, none⟩ = some (.int .i64 c11) ∧ w1.cell? ⟨tb, 12, none⟩ = some (.int .i64 c12) ∧ w1.cell? ⟨tb, 13, none⟩ = some (.int .i64 c13) ∧ w1.cell? ⟨tb, 14, none⟩ = some (.string c14) ∧ w1.cell? ⟨tb, 15, none⟩ = some (.int .i64 c15) ∧ w1.cell? ⟨tb, 16, none⟩ = some (.string c16)) ∧ (∀ k, w1.frozen? ⟨tb, k, none⟩ = false) ∧
   (y ≠ tb ∧ y ≠ gb ∧ tb ≠ gb ∧ g ≠ y ∧ g ≠ tb ∧ g ≠ gb) ∧ L'.length ≤ 1001 ∧
   Hid (∀ m Z n, n = cntOf L a → (((((((((w1.drewN m).setCell ⟨gb, i * 4 + 3, none⟩ (.int .i64 (n + 1))).setCell ⟨tb, 10, none⟩ (.int .i64 (sends + 1))).setCell ⟨y, 8, none⟩ (.int .i64 r1)).setCell ⟨tb, 11, none⟩ (.int .i64 r1)).setCell ⟨tb, 12, none⟩ (.int .i64 a)).setCell ⟨tb, 13, none⟩ (.int .i64 now)).setCell ⟨tb, 14, none⟩ (.string nm)).setCell ⟨tb, 15, none⟩ (.int .i64 ty)).setCell ⟨tb, 16, none⟩ (.string ⟨#[]⟩) = Z →
    Z.heap[y]? = some (rresO vh en tr pa mx now r1 asked vt (.slice sa S.length sc) vr) ∧ Z.heap[tb]? = some (rtaskO num id nm ty va vs' vm gs (sends + 1) r1 a now nm ty ⟨#[]⟩) ∧ Z.heap[g]? = some (rgoalO nm ty (.slice (some ⟨gb, 0, none⟩) (L'.set i (a, cntOf L a + 1)).length cv')) ∧
    Z.ownsRow 0 386 4 (.slice (some ⟨gb, 0, none⟩) (L'.set i (a, cntOf L a + 1)).length cv') (L'.set i (a, cntOf L a + 1)).length (tcells nm (L'.set i (a, cntOf L a + 1))) ∧ Z.ownsRow 0 105 2 (.slice sa S.length sc) S.length (pcells S) ∧
    Keeps (fun k => k = y ∨ k = tb ∨ k = g ∨ (Value.slice av L.length cv).ownBlock = some k ∨ (Value.slice sa S.length sc).ownBlock = some k) w Z ∧ ((Value.slice av L.length cv).ownBlock = some gb ∨ w.heap.size ≤ gb) ∧ cntOf (L'.set i (a, cntOf L a + 1)) = bumped (cntOf L) a ∧ TriedL L (L'.set i (a, cntOf L a + 1)) a)) := by
  intro w1 i h
  obtain ⟨gb, cv', L', q1, q2, q3, q4, q5, q6, q7, q8, q9, q10, q11, q12, q13⟩ := times_facts hy ht hg hv h
  obtain ⟨cur, hcb⟩ := own_blk q4 (k := gb) rfl
  have hs1 : w1.ownsRow 0 105 2 (.slice sa S.length sc) S.length (pcells S) := own_same hs fun k e => by
   obtain ⟨c, hk⟩ := own_blk hs e
   exact q12.block k (hs.lt k e).2 (by rintro (rfl | h); exact kind_ne hk hg (by decide) rfl; exact own_far hv hk (by decide) h.symm)
  refine ⟨gb, cv', L', (cells6 q3).2.2.2.2.1, (cells6 q3).2.1, (cells6 q3).2.2.1, q7, q8, frozen_of_row _ gb _ _ 386 hcb, by rw [cell_blk q1]; rfl, ⟨by rw [cell_blk q1]; rfl, by rw [cell_blk q1]; rfl, fun k => frozen_of_row _ y k _ 163 q1⟩, ⟨wi, wa, at_, wn, wt, wz, ?_⟩, fun k => frozen_of_row _ tb k _ 220 q2, ⟨kind_ne q1 q2 (by decide), kind_ne q1 hcb (by decide), kind_ne q2 hcb (by decide), kind_ne q3 q1 (by decide), kind_ne q3 q2 (by decide), kind_ne q3 hcb (by decide)⟩, by omega, ?_⟩
  ·refine ⟨?_, ?_, ?_, ?_, ?_, ?_, ?_⟩ <;> (rw [cell_blk q2]; rfl)
  ·rintro m Z n rfl hZ
   obtain ⟨z1, z2, z3, z4, z5, z6⟩ := tries_mem (X := w1.drewN m) q1 q2 q3 (own_same q4 fun _ _ => rfl) (own_same hs1 fun _ _ => rfl) q5 hZ
   have hl : (L'.set i (a, cntOf L a + 1)).length = L'.length := List.length_set
   rw [hl]
   refine ⟨z1, z2, z3, z4, z5, ?_, q13, ?_, ?_⟩
   ·have k1 : Keeps (fun k => k = y ∨ k = tb ∨ k = g ∨ (Value.slice av L.length cv).ownBlock = some k ∨ (Value.slice sa S.length sc).ownBlock = some k) w (w1.drewN m) := ⟨q12.os, q12.tape, q12.output, q12.size, fun k hk hn => q12.block k hk fun h => hn (by rcases h with h | h; exact .inr (.inr (.inl h)); exact .inr (.inr (.inr (.inl h))))⟩
    refine k1.then z6 fun k hk => ?_
    rcases hk with h | h | h
    ·exact .inl (.inl h)
    ·exact .inl (.inr (.inl h))
    ·subst h
     rcases q13 with h | h
     ·exact .inl (.inr (.inr (.inr (.inl h))))
     ·exact .inr h
   ·rw [cnt_set q5 q6, q11]
   ·unfold TriedL at q10 ⊢
    rw [keys_set q5]
    exact q10
 clear hy ht hg hv hs
 have H5 := hid hw5
 clear hw5
 go_enter Tryz.func235, Tryz.ntmps235
 go_wp2_with fail
 refine hT.out.mono ?_
 rintro e w1 ⟨i, rfl, hTR⟩
 obtain ⟨gb, cv', L', g4, g1, g2, hil, hcb, hfb, y2, ⟨y7, y8, fy⟩, ⟨c11, c12, c13, c14, c15, c16, t10, t11, t12, t13, t14, t15, t16⟩, ft, ⟨n1, n2, n3, n4, n5, n6⟩, hl1, HZ⟩ := HX.out w1 i hTR
 clear HX hT hTR
 have m1 := n1.symm
 have m2 := n2.symm
 have m3 := n3.symm
 have m4 := n4.symm
 have m5 := n5.symm
 have m6 := n6.symm
 have hw5 := H5.out
 go_wp2
 go_quiet (fail)
 go_wp2
 obtain ⟨Z, hZ⟩ : ∃ Z, (((((((((w1.drewN nq).setCell ⟨gb, i * 4 + 3, none⟩ (.int .i64 (cntOf L a + 1))).setCell ⟨tb, 10, none⟩ (.int .i64 (sends + 1))).setCell ⟨y, 8, none⟩ (.int .i64 r1)).setCell ⟨tb, 11, none⟩ (.int .i64 r1)).setCell ⟨tb, 12, none⟩ (.int .i64 a)).setCell ⟨tb, 13, none⟩ (.int .i64 now)).setCell ⟨tb, 14, none⟩ (.string nm)).setCell ⟨tb, 15, none⟩ (.int .i64 ty)).setCell ⟨tb, 16, none⟩ (.string ⟨#[]⟩) = Z := ⟨_, rfl⟩
 obtain ⟨zy, zt, zg, zr, zs, hkZ, hgb, hcnt, hTL⟩ := HZ.out nq Z _ rfl hZ
 rw [hZ]
 clear hZ HZ g4 g1 g2 hcb hfb y2 y7 y8 fy t10 t11 t12 t13 t14 t15 t16 ft n1 n2 n3 n4 n5 n6 m1 m2 m3 m4 m5 m6
 have lyZ : y < Z.heap.size := (Array.getElem?_eq_some_iff.1 zy).1
 have lgZ : g < Z.heap.size := (Array.getElem?_eq_some_iff.1 zg).1
 have hS0 : Below Z.heap.size Z Z.drew := (Below.refl _ _).drew
 have HT : Hid (∀ w', Below Z.heap.size Z w' → w'.cell? ⟨g, 1, none⟩ = some (.string nm) ∧ w'.cell? ⟨g, 2, none⟩ = some (.int .i64 ty) ∧ w'.cell? ⟨y, 8, none⟩ = some (.int .i64 r1)) := by
  intro w' hb
  exact ⟨(cells6 ((hb.block g lgZ).trans zg)).2.1, (cells6 ((hb.block g lgZ).trans zg)).2.2.1, by rw [cell_blk ((hb.block y lyZ).trans zy)]; rfl⟩
 refine wp_region_held_drew (S := fun w' => Below Z.heap.size Z w') (by kernel_rfl) hS0 (fun hS => ?_)
 refine tkS (i := 0) (v := .pointer (some ⟨y, 0, none⟩)) rfl hS ?_
 refine tkS (i := 1) (v := .pointer (some ⟨y, 0, none⟩)) rfl hS ?_
 refine tkS (i := 2) (v := .pointer (some ⟨y, 8, none⟩)) rfl hS ?_
 refine tkY (i := 3) (v := .int .i64 r1) rfl (Or.inl ⟨by rfl, fun w' hw => by obtain ⟨f1, f2, f8⟩ := HT.out w' hw; go_simp⟩) hS ?_
 refine tkS (i := 4) (v := .pointer (some ⟨g, 0, none⟩)) rfl hS ?_
 refine tkS (i := 5) (v := .pointer (some ⟨g, 0, none⟩)) rfl hS ?_
 refine tkS (i := 6) (v := .pointer (some ⟨g, 1, none⟩)) rfl hS ?_
 refine tkY (i := 7) (v := .string nm) rfl (Or.inl ⟨by rfl, fun w' hw => by obtain ⟨f1, f2, f8⟩ := HT.out w' hw; go_simp⟩) hS ?_
 refine tkS (i := 8) (v := .pointer (some ⟨g, 0, none⟩)) rfl hS ?_
 refine tkS (i := 9) (v := .pointer (some ⟨g, 0, none⟩)) rfl hS ?_
 refine tkS (i := 10) (v := .pointer (some ⟨g, 2, none⟩)) rfl hS ?_
 refine tkY (i := 11) (v := .int .i64 ty) rfl (Or.inl ⟨by rfl, fun w' hw => by obtain ⟨f1, f2, f8⟩ := HT.out w' hw; go_simp⟩) hS ?_
 refine tkS (i := 12) (v := .agg #[.int .i64 r1, .bool false, .int .i64 0, .string nm, .int .i64 ty, .slice none 0 0, .slice none 0 0, .slice none 0 0]) rfl hS ?_
 refine wpAnyH_ready (rs := [13]) (by kernel_rfl) (by simp) ?_
 refine AllReadyH.cons rfl (fun K hK => ?_) AllReadyH.nil
 go_simp
 refine (rEncode_q r1 nm ty _ hnm).mono ?_
 rintro e w2 ⟨rfl, hb2⟩
 refine hK.out _ _ (hS0.trans (hb2.mono hS0.size)) fun hS => ?_
 refine tkS (i := 14) (v := .tuple #[.string (qB r1 nm ty), .int .i64 (encE ⟨r1, false, 0, nm, ty, [], [], []⟩)]) rfl hS ?_
 refine tkS (i := 15) (v := .string (qB r1 nm ty)) rfl hS ?_
 refine tkS (i := 16) (v := .int .i64 (encE ⟨r1, false, 0, nm, ty, [], [], []⟩)) rfl hS ?_
 refine tkS (i := 17) (v := .string (qB r1 nm ty)) rfl hS ?_
 refine tkS (i := 18) (v := .int .i64 (encE ⟨r1, false, 0, nm, ty, [], [], []⟩)) rfl hS ?_
 refine wpAnyH_done (by kernel_rfl) ?_ _
 clear hS HT
 have hb02 : Below Z.heap.size Z w2 := hS0.trans (hb2.mono hS0.size)
 have c11 : w2.cell? ⟨y, 11, none⟩ = some (.slice sa S.length sc) := (hb02.cell (p := ⟨y, 11, none⟩) lyZ).trans (by rw [cell_blk zy]; rfl)
 have hown2 : w2.ownsRow 0 105 2 (.slice sa S.length sc) S.length (pcells S) := own_same zs fun k e => hb02.block k (zs.lt k e).2
 have HE := hid (tries_end (w := w) (L := L) zy zt zg zr zs hb02 hkZ hgb hcnt hTL)
 clear hb02 hb2 hS0 zy zt zg zr zs hkZ hgb hcnt hTL
 go_wp2_with (at_builtin; refine wpList_append_two _ rfl _ _ 31 rfl 0 105 i0 (.agg #[.int .i64 0, .string ByteArray.empty]) 2 24 hu31 hi0 hz0 hz1 hz2 rfl _ _ _ rfl (hown2.alloc _) ⟨w2.heap.size, 0, none⟩ 1 1 [.int .i64 a, .string (qB r1 nm ty)] rfl rfl (World.news_of_block (Go.heap_alloc_new _ _)) (by intro u hu; simp at hu; rcases hu with rfl | rfl <;> rfl) (by decide) (room24 _ hSl).1 (room24 _ hSl).2 (Nat.zero_le _) ?_)
 intro g6 c6 w6 r6 o6 L6
 have HQ := HE.out _ w6 g6 c6 r6 L6
 clear r6 o6 L6 hown2 HE
 obtain ⟨e1, e2, e3⟩ := HQ
 go_wp2
 go_ret
 exact ⟨rfl, gb, cv', L'.set i (a, cntOf L a + 1), g6, c6, e3⟩
end Go.Proofs.YtefdokkadckbbaaGreatDoor
