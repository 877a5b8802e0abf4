/- Rf Rg -/
import Derived.Test.YtefdokkadckbbaaGreatDoorZ26
section
namespace Go.Proofs.YtefdokkadckbbaaGreatDoor
open Go.RowKit
set_option maxRecDepth 100000
structure Pr where
 pb : Nat
 x : Nat
 y : Nat
 F : Nat → Prop
 G : Nat → Prop
 s : Rs
 t : Rs
structure PrOk (W : World) (p : Pr) : Prop where
 pair : W.heap[p.pb]? = some (.cells #[.pointer (some ⟨p.x, 0, none⟩), .pointer (some ⟨p.y, 0, none⟩)] 154 (0, 0))
 pr : PRs W p.F p.x p.s
 rr : RRs W p.G p.y p.t
 dis : ∀ k, p.F k → ¬ p.G k
abbrev mP (x : Int) : List Value := [.int .i64 x, .string ⟨#[]⟩]
abbrev mE (x : Int) : List Value := [.string ⟨#[]⟩, .int .i64 x, .int .i64 0, .int .i64 0, .slice none 0 0]
abbrev bookO (vl ps pm as_ am es em : Value) (nx : Nat) : Obj := .cells #[vl, .slice none 0 0, .slice none 0 0, ps, pm, as_, am, es, em, .int .i64 (nx : Int)] 97 (0, 0)
structure Lists (W : World) (O : Nat → Prop) (e ll : TypeId) (m : Int → List Value) (vs vm : Value) (L : List Ent) : Prop where
 rv : W.ownsRow 0 ll 1 vs L.length (L.map (·.v))
 rm : W.ownsRow 0 3 1 vm L.length (L.map fun e => Value.int .i64 e.x)
 ent : ∀ d ∈ L, MarkK W e (m d.x) d.v d.n ∧ d.n ≤ 33554440 ∧ ∀ k, d.v.ownBlock = some k → O k
 own : (∀ k, vs.ownBlock = some k → O k) ∧ ∀ k, vm.ownBlock = some k → O k
theorem Lists.same {W W' : World} {O O' : Nat → Prop} {e ll : TypeId} {m : Int → List Value} {vs vm : Value} {L : List Ent} (h : Lists W O e ll m vs vm L) (hk : ∀ k, O k → W'.heap[k]? = W.heap[k]?) (hO : ∀ k, O k → O' k) : Lists W' O' e ll m vs vm L :=
 ⟨own_same h.rv fun k e => hk k (h.own.1 k e), own_same h.rm fun k e => hk k (h.own.2 k e), fun d hd => ⟨(h.ent d hd).1.kept fun k _ e _ => hk k ((h.ent d hd).2.2 k e), (h.ent d hd).2.1, fun k e => hO k ((h.ent d hd).2.2 k e)⟩, fun k e => hO k (h.own.1 k e), fun k e => hO k (h.own.2 k e)⟩
structure LawS (W : World) (base : Nat) (O : Nat → Prop) (B : Nat) (vl ps pm as_ am es em : Value) (prs : List Pr) (P A E : List Ent) (nx : Nat) : Prop where
 box : W.heap[B]? = some (bookO vl ps pm as_ am es em nx)
 lp : Lists W O 105 31 mP ps pm P
 la : Lists W O 66 63 mP as_ am A
 le : Lists W O 167 85 mE es em E
 apart : (∀ k, pm.ownBlock = some k → am.ownBlock ≠ some k ∧ em.ownBlock ≠ some k) ∧ ∀ k, am.ownBlock = some k → em.ownBlock ≠ some k
 row : W.ownsRow 0 101 1 vl prs.length (prs.map fun p => Value.pointer (some ⟨p.pb, 0, none⟩))
 own : O B ∧ (∀ k, vl.ownBlock = some k → O k) ∧ ∀ p ∈ prs, O p.pb
 ok : ∀ p ∈ prs, PrOk W p
 dis : (∀ p ∈ prs, ∀ k, O k → ¬ p.F k ∧ ¬ p.G k) ∧ prs.Pairwise fun p q => ∀ k, (p.F k ∨ p.G k) → ¬ (q.F k ∨ q.G k)
 lt : ∀ k, O k → k < W.heap.size
 base : (∀ k, O k → base ≤ k) ∧ ∀ p ∈ prs, ∀ k, (p.F k ∨ p.G k) → base ≤ k
section
variable {W W' : World} {base : Nat} {O : Nat → Prop} {B : Nat} {vl ps pm as_ am es em : Value} {prs X Y : List Pr} {P A E : List Ent} {nx : Nat} {p : Pr}
theorem PrOk.lt {W : World} {p : Pr} (h : PrOk W p) : ∀ k, (p.F k ∨ p.G k) → k < W.heap.size := by
 rintro k (hk | hk)
 ·exact h.pr.lt k hk
 ·exact h.rr.lt k hk
theorem PrOk.same {W W' : World} {p : Pr} (h : PrOk W p) (hs : W.heap.size ≤ W'.heap.size) (hb : W'.heap[p.pb]? = W.heap[p.pb]?) (hk : ∀ k, (p.F k ∨ p.G k) → W'.heap[k]? = W.heap[k]?) : PrOk W' p :=
 ⟨hb.trans h.pair, h.pr.same hs fun k e => hk k (.inl e), h.rr.same hs fun k e => hk k (.inr e), h.dis⟩
theorem LawS.same (h : LawS W base O B vl ps pm as_ am es em prs P A E nx) (hs : W.heap.size ≤ W'.heap.size) (hO : ∀ k, O k → W'.heap[k]? = W.heap[k]?) (hp : ∀ p ∈ prs, ∀ k, (p.F k ∨ p.G k) → W'.heap[k]? = W.heap[k]?) : LawS W' base O B vl ps pm as_ am es em prs P A E nx :=
 ⟨(hO _ h.own.1).trans h.box, h.lp.same hO fun _ h => h, h.la.same hO fun _ h => h, h.le.same hO fun _ h => h, h.apart, own_same h.row fun k e => hO k (h.own.2.1 k e), h.own, fun p hp' => (h.ok p hp').same hs (hO _ (h.own.2.2 p hp')) (hp p hp'), h.dis, fun k e => Nat.lt_of_lt_of_le (h.lt k e) hs, h.base⟩
theorem LawS.below (h : LawS W base O B vl ps pm as_ am es em prs P A E nx) (hb : Below W.heap.size W W') : LawS W' base O B vl ps pm as_ am es em prs P A E nx :=
 h.same hb.size (fun k e => hb.block k (h.lt k e)) fun p hp k e => hb.block k ((h.ok p hp).lt k e)
theorem LawS.swap (h : LawS W base O B vl ps pm as_ am es em (X ++ p :: Y) P A E nx) {q : Pr} {H : Nat → Prop} (hK : Keeps H W W') (hH : ∀ k, H k → p.F k ∨ p.G k) (hpb : q.pb = p.pb) (hq : PrOk W' q) (hnew : ∀ k, (q.F k ∨ q.G k) → (p.F k ∨ p.G k) ∨ W.heap.size ≤ k) : LawS W' base O B vl ps pm as_ am es em (X ++ q :: Y) P A E nx := by
 have hpm : p ∈ X ++ p :: Y := List.mem_append_right _ List.mem_cons_self
 have hO : ∀ k, O k → W'.heap[k]? = W.heap[k]? := fun k e => hK.block k (h.lt k e) fun hk => by
  rcases hH k hk with h' | h'
  ·exact (h.dis.1 p hpm k e).1 h'
  ·exact (h.dis.1 p hpm k e).2 h'
 have hsub : ∀ r, r ∈ X ++ Y → r ∈ X ++ p :: Y := fun r hr => by
  rcases List.mem_append.1 hr with h | h
  ·exact List.mem_append_left _ h
  ·exact List.mem_append_right _ (List.mem_cons_of_mem _ h)
 obtain ⟨d1, d2⟩ := h.dis
 rw [List.pairwise_append, List.pairwise_cons] at d2
 obtain ⟨e1, ⟨e2, e3⟩, e4⟩ := d2
 have hfar : ∀ r, r ∈ X ++ Y → ∀ k, (r.F k ∨ r.G k) → ¬ (p.F k ∨ p.G k) := fun r hr k hk hp => by
  rcases List.mem_append.1 hr with h | h
  ·exact e4 r h p List.mem_cons_self k hk hp
  ·exact e2 r h k hp hk
 have hr : ∀ r, r ∈ X ++ Y → PrOk W' r := fun r hr => (h.ok r (hsub r hr)).same hK.size (hO _ (h.own.2.2 r (hsub r hr))) fun k hk => hK.block k ((h.ok r (hsub r hr)).lt k hk) fun hh => hfar r hr k hk (hH k hh)
 have hqO : ∀ k, O k → ¬ q.F k ∧ ¬ q.G k := fun k e => by
  have : ¬ (q.F k ∨ q.G k) := fun hk => by
   rcases hnew k hk with h' | h'
   ·rcases h' with h' | h'
    ·exact (d1 p hpm k e).1 h'
    ·exact (d1 p hpm k e).2 h'
   ·have := h.lt k e; omega
  exact ⟨fun h => this (.inl h), fun h => this (.inr h)⟩
 have hqr : ∀ r, r ∈ X ++ Y → ∀ k, (r.F k ∨ r.G k) → ¬ (q.F k ∨ q.G k) := fun r hr k hk hq' => by
  rcases hnew k hq' with h' | h'
  ·exact hfar r hr k hk h'
  ·have := (h.ok r (hsub r hr)).lt k hk; omega
 have hbq : ∀ k, (q.F k ∨ q.G k) → base ≤ k := fun k hk => by
  rcases hnew k hk with h' | h'
  ·exact h.base.2 p hpm k h'
  ·have h1 := h.base.1 B h.own.1
   have h2 := h.lt B h.own.1
   omega
 have split : ∀ {T : Pr → Prop}, T q → (∀ r, r ∈ X ++ Y → T r) → ∀ r, r ∈ X ++ q :: Y → T r := fun {T} h1 h2 r hr => by
  rcases List.mem_append.1 hr with h | h
  ·exact h2 r (List.mem_append_left _ h)
  ·rcases List.mem_cons.1 h with rfl | h
   ·exact h1
   ·exact h2 r (List.mem_append_right _ h)
 refine ⟨(hO _ h.own.1).trans h.box, h.lp.same hO fun _ h => h, h.la.same hO fun _ h => h, h.le.same hO fun _ h => h, h.apart, ?_, ⟨h.own.1, h.own.2.1, split (by rw [hpb]; exact h.own.2.2 p hpm) fun r hr => h.own.2.2 r (hsub r hr)⟩, split hq hr, ⟨split hqO fun r hr => d1 r (hsub r hr), ?_⟩, fun k e => Nat.lt_of_lt_of_le (h.lt k e) hK.size, h.base.1, split hbq fun r hr => h.base.2 r (hsub r hr)⟩
 ·have h1 := own_same (w' := W') h.row fun k e => hO k (h.own.2.1 k e)
  have e : ((X ++ q :: Y).map fun p => Value.pointer (some ⟨p.pb, 0, none⟩)) = (X ++ p :: Y).map fun p => Value.pointer (some ⟨p.pb, 0, none⟩) := by simp [hpb]
  have el : (X ++ q :: Y).length = (X ++ p :: Y).length := by simp
  rw [e, el]
  exact h1
 ·rw [List.pairwise_append, List.pairwise_cons]
  refine ⟨e1, ⟨fun r hr k hk hk' => hqr r (List.mem_append_right _ hr) k hk' hk, e3⟩, fun r hr r' hr' k hk => ?_⟩
  rcases List.mem_cons.1 hr' with rfl | hr'
  ·exact hqr r (List.mem_append_left _ hr) k hk
  ·exact e4 r hr r' (List.mem_cons_of_mem _ hr') k hk
end
end Go.Proofs.YtefdokkadckbbaaGreatDoor
end
section
namespace Go.Proofs.YtefdokkadckbbaaGreatDoor
open Go.RowKit
set_option maxRecDepth 100000
section
variable {W W' : World} {base : Nat} {O : Nat → Prop} {B : Nat} {vl ps pm as_ am es em : Value} {prs : List Pr} {P A E : List Ent} {nx : Nat}
theorem LawS.tookP (h : LawS W base O B vl ps pm as_ am es em prs P A E nx) {l : Value} {N : Nat} (hN : N ≤ 33554432) (hl : ∀ k, l.ownBlock = some k → ¬ O k ∧ (∀ p ∈ prs, ¬ (p.F k ∨ p.G k)) ∧ base ≤ k ∧ k < W.heap.size) {ps' pm' l1 l2 l3 : Value} {x : Int}
  (hb : W'.heap[B]? = some (bookO vl ps' pm' as_ am es em (nx + 1))) (hrv : W'.ownsRow 0 31 1 ps' (P.length + 4) (P.map (·.v) ++ [l, l1, l2, l3])) (hrm : W'.ownsRow 0 3 1 pm' (P.length + 4) ((P.map fun e => Value.int .i64 e.x) ++ [.int .i64 x, .int .i64 x, .int .i64 x, .int .i64 x]))
  (hm : MarkK W' 105 (mP x) l N ∧ MarkK W' 105 (mP x) l1 (N + 1) ∧ MarkK W' 105 (mP x) l2 (N + 2) ∧ MarkK W' 105 (mP x) l3 (N + 3)) (hK : Keeps (fun k => k = B ∨ ps.ownBlock = some k ∨ pm.ownBlock = some k ∨ l.ownBlock = some k) W W')
  (h1 : ∀ k, ps'.ownBlock = some k → ps.ownBlock = some k ∨ W.heap.size ≤ k) (h2 : ∀ k, pm'.ownBlock = some k → pm.ownBlock = some k ∨ W.heap.size ≤ k) (h3 : ∀ k, l1.ownBlock = some k → l.ownBlock = some k ∨ W.heap.size ≤ k) (h4 : ∀ k, l2.ownBlock = some k → l.ownBlock = some k ∨ W.heap.size ≤ k) (h5 : ∀ k, l3.ownBlock = some k → l.ownBlock = some k ∨ W.heap.size ≤ k) :
  ∃ O', LawS W' base O' B vl ps' pm' as_ am es em prs (P ++ [⟨l, N, x⟩, ⟨l1, N + 1, x⟩, ⟨l2, N + 2, x⟩, ⟨l3, N + 3, x⟩]) A E (nx + 1) ∧ Below base W W' := by
 have hz := hK.size
 obtain ⟨O', hOd⟩ : ∃ O' : Nat → Prop, O' = fun k => O k ∨ l.ownBlock = some k ∨ (W.heap.size ≤ k ∧ k < W'.heap.size) := ⟨_, rfl⟩
 have hO' : ∀ j, O j → O' j := fun j hj => by rw [hOd]; exact .inl hj
 have hOl : ∀ j, l.ownBlock = some j → O' j := fun j hj => by rw [hOd]; exact .inr (.inl hj)
 have hOn : ∀ j, W.heap.size ≤ j → j < W'.heap.size → O' j := fun j hj hj' => by rw [hOd]; exact .inr (.inr ⟨hj, hj'⟩)
 have hkeep : ∀ j, O j → j ≠ B → ps.ownBlock ≠ some j → pm.ownBlock ≠ some j → W'.heap[j]? = W.heap[j]? := fun j hj n1 n2 n3 => hK.block j (h.lt j hj) (by
  rintro (e | e | e | e)
  ·exact n1 e
  ·exact n2 e
  ·exact n3 e
  ·exact (hl j e).1 hj)
 have hpk : ∀ p ∈ prs, ∀ j, (p.F j ∨ p.G j) → W'.heap[j]? = W.heap[j]? := fun p hp j hj => hK.block j ((h.ok p hp).lt j hj) (by
  have hd := h.dis.1 p hp j
  have hno : ¬ O j := fun ho => by
   rcases hj with h' | h'
   ·exact (hd ho).1 h'
   ·exact (hd ho).2 h'
  rintro (e | e | e | e)
  ·exact hno (e ▸ h.own.1)
  ·exact hno (h.lp.own.1 j e)
  ·exact hno (h.lp.own.2 j e)
  ·exact (hl j e).2.1 p hp hj)
 have hapA : ∀ j, pm.ownBlock = some j → am.ownBlock ≠ some j := fun j e1 e2 => (h.apart.1 j e1).1 e2
 have hapE : ∀ j, pm.ownBlock = some j → em.ownBlock ≠ some j := fun j e1 e2 => (h.apart.1 j e1).2 e2
 have hbpA : ∀ j, pm'.ownBlock = some j → am.ownBlock ≠ some j := fun j e1 e2 => by
  rcases h2 j e1 with h' | h'
  ·exact hapA j h' e2
  ·have := h.lt j (h.la.own.2 j e2); omega
 have hbpE : ∀ j, pm'.ownBlock = some j → em.ownBlock ≠ some j := fun j e1 e2 => by
  rcases h2 j e1 with h' | h'
  ·exact hapE j h' e2
  ·have := h.lt j (h.le.own.2 j e2); omega
 have sA : Lists W' O' 66 63 mP as_ am A := by
  have hq := h.la
  refine ⟨own_same hq.rv fun j ej => ?_, own_same hq.rm fun j ej => ?_, fun d hd => ⟨(hq.ent d hd).1.kept fun j c ej hc => ?_, (hq.ent d hd).2.1, fun j ej => hO' j ((hq.ent d hd).2.2 j ej)⟩, fun j ej => hO' j (hq.own.1 j ej), fun j ej => hO' j (hq.own.2 j ej)⟩
  ·obtain ⟨c, hc⟩ := own_blk hq.rv ej
   exact hkeep j (hq.own.1 j ej) (kind_ne hc h.box (by decide)) (fun e' => own_far h.lp.rv hc (by decide) e'.symm) (fun e' => own_far h.lp.rm hc (by decide) e'.symm)
  ·obtain ⟨c, hc⟩ := own_blk hq.rm ej
   exact hkeep j (hq.own.2 j ej) (kind_ne hc h.box (by decide)) (fun e' => own_far h.lp.rv hc (by decide) e'.symm) (fun e' => hapA j e' ej)
  ·exact hkeep j ((hq.ent d hd).2.2 j ej) (kind_ne hc h.box (by decide)) (fun e' => own_far h.lp.rv hc (by decide) e'.symm) (fun e' => own_far h.lp.rm hc (by decide) e'.symm)
 have sE : Lists W' O' 167 85 mE es em E := by
  have hq := h.le
  refine ⟨own_same hq.rv fun j ej => ?_, own_same hq.rm fun j ej => ?_, fun d hd => ⟨(hq.ent d hd).1.kept fun j c ej hc => ?_, (hq.ent d hd).2.1, fun j ej => hO' j ((hq.ent d hd).2.2 j ej)⟩, fun j ej => hO' j (hq.own.1 j ej), fun j ej => hO' j (hq.own.2 j ej)⟩
  ·obtain ⟨c, hc⟩ := own_blk hq.rv ej
   exact hkeep j (hq.own.1 j ej) (kind_ne hc h.box (by decide)) (fun e' => own_far h.lp.rv hc (by decide) e'.symm) (fun e' => own_far h.lp.rm hc (by decide) e'.symm)
  ·obtain ⟨c, hc⟩ := own_blk hq.rm ej
   exact hkeep j (hq.own.2 j ej) (kind_ne hc h.box (by decide)) (fun e' => own_far h.lp.rv hc (by decide) e'.symm) (fun e' => hapE j e' ej)
  ·exact hkeep j ((hq.ent d hd).2.2 j ej) (kind_ne hc h.box (by decide)) (fun e' => own_far h.lp.rv hc (by decide) e'.symm) (fun e' => own_far h.lp.rm hc (by decide) e'.symm)
 have sP : Lists W' O' 105 31 mP ps' pm' (P ++ [⟨l, N, x⟩, ⟨l1, N + 1, x⟩, ⟨l2, N + 2, x⟩, ⟨l3, N + 3, x⟩]) := by
  refine ⟨?_, ?_, fun d hd => ?_, fun j ej => ?_, fun j ej => ?_⟩
  ·rw [List.length_append, List.map_append]; exact hrv
  ·rw [List.length_append, List.map_append]; exact hrm
  ·rcases List.mem_append.1 hd with hd | hd
   ·obtain ⟨m1, m2, m3⟩ := h.lp.ent d hd
    exact ⟨m1.kept fun j c ej hc => hkeep j (m3 j ej) (kind_ne hc h.box (by decide)) (fun e' => own_far h.lp.rv hc (by decide) e'.symm) (fun e' => own_far h.lp.rm hc (by decide) e'.symm), m2, fun j ej => hO' j (m3 j ej)⟩
   ·have hmo : ∀ (v : Value) (n : Nat), MarkK W' 105 (mP x) v n → (∀ j, v.ownBlock = some j → l.ownBlock = some j ∨ W.heap.size ≤ j) → ∀ j, v.ownBlock = some j → O' j := fun v n hv hh j ej => by
     rcases hh j ej with h' | h'
     ·exact hOl j h'
     ·refine hOn j h' ?_
      rcases hv with ⟨rfl, _⟩ | ⟨g, cap, cur, rfl, hg, _⟩
      ·simp [Value.ownBlock] at ej
      ·have e' : g = j := by simpa [Value.ownBlock] using ej
       rw [← e']; exact (Array.getElem?_eq_some_iff.1 hg).1
    simp only [List.mem_cons, List.not_mem_nil, or_false] at hd
    rcases hd with rfl | rfl | rfl | rfl
    ·exact ⟨hm.1, by simp only; omega, fun j ej => hOl j ej⟩
    ·exact ⟨hm.2.1, by simp only; omega, hmo _ _ hm.2.1 h3⟩
    ·exact ⟨hm.2.2.1, by simp only; omega, hmo _ _ hm.2.2.1 h4⟩
    ·exact ⟨hm.2.2.2, by simp only; omega, hmo _ _ hm.2.2.2 h5⟩
  ·rcases h1 j ej with h' | h'
   ·exact hO' j (h.lp.own.1 j h')
   ·exact hOn j h' (hrv.lt j ej).2
  ·rcases h2 j ej with h' | h'
   ·exact hO' j (h.lp.own.2 j h')
   ·exact hOn j h' (hrm.lt j ej).2
 have hbs : ∀ j, O' j → base ≤ j := fun j hj => by
  rw [hOd] at hj
  rcases hj with h' | h' | h'
  ·exact h.base.1 j h'
  ·exact (hl j h').2.2.1
  ·have a1 := h.base.1 B h.own.1
   have a2 := h.lt B h.own.1
   omega
 refine ⟨O', ⟨hb, sP, sA, sE, ⟨fun j ej => ⟨hbpA j ej, hbpE j ej⟩, h.apart.2⟩, own_same h.row fun j ej => ?_, ⟨hO' _ h.own.1, fun j ej => hO' j (h.own.2.1 j ej), fun p hp => hO' _ (h.own.2.2 p hp)⟩, fun p hp => (h.ok p hp).same hz ?_ (hpk p hp), ⟨fun p hp j hj => ?_, h.dis.2⟩, fun j hj => ?_, hbs, h.base.2⟩, ?_⟩
 ·obtain ⟨c, hc⟩ := own_blk h.row ej
  exact hkeep j (h.own.2.1 j ej) (kind_ne hc h.box (by decide)) (fun e' => own_far h.lp.rv hc (by decide) e'.symm) (fun e' => own_far h.lp.rm hc (by decide) e'.symm)
 ·have hc := (h.ok p hp).pair
  exact hkeep _ (h.own.2.2 p hp) (kind_ne hc h.box (by decide)) (fun e' => own_far h.lp.rv hc (by decide) e'.symm) (fun e' => own_far h.lp.rm hc (by decide) e'.symm)
 ·rw [hOd] at hj
  rcases hj with h' | h' | h'
  ·exact h.dis.1 p hp j h'
  ·have := (hl j h').2.1 p hp
   exact ⟨fun e => this (.inl e), fun e => this (.inr e)⟩
  ·refine ⟨fun e => ?_, fun e => ?_⟩
   ·have := (h.ok p hp).lt j (.inl e); omega
   ·have := (h.ok p hp).lt j (.inr e); omega
 ·rw [hOd] at hj
  rcases hj with h' | h' | h'
  ·exact Nat.lt_of_lt_of_le (h.lt j h') hz
  ·exact Nat.lt_of_lt_of_le (hl j h').2.2.2 hz
  ·exact h'.2
 ·have a1 := h.base.1 B h.own.1
  have a2 := h.lt B h.own.1
  refine ⟨hK.os, hK.tape, hK.output, hz, fun j hj => hK.block j (by omega) ?_⟩
  rintro (e | e | e | e)
  ·omega
  ·have := h.base.1 j (h.lp.own.1 j e); omega
  ·have := h.base.1 j (h.lp.own.2 j e); omega
  ·have := (hl j e).2.2.1; omega
theorem LawS.tookA (h : LawS W base O B vl ps pm as_ am es em prs P A E nx) {l : Value} {N : Nat} (hN : N ≤ 33554432) (hl : ∀ k, l.ownBlock = some k → ¬ O k ∧ (∀ p ∈ prs, ¬ (p.F k ∨ p.G k)) ∧ base ≤ k ∧ k < W.heap.size) {as_' am' l1 l2 l3 : Value} {x : Int}
  (hb : W'.heap[B]? = some (bookO vl ps pm as_' am' es em (nx + 1))) (hrv : W'.ownsRow 0 63 1 as_' (A.length + 4) (A.map (·.v) ++ [l, l1, l2, l3])) (hrm : W'.ownsRow 0 3 1 am' (A.length + 4) ((A.map fun e => Value.int .i64 e.x) ++ [.int .i64 x, .int .i64 x, .int .i64 x, .int .i64 x]))
  (hm : MarkK W' 66 (mP x) l N ∧ MarkK W' 66 (mP x) l1 (N + 1) ∧ MarkK W' 66 (mP x) l2 (N + 2) ∧ MarkK W' 66 (mP x) l3 (N + 3)) (hK : Keeps (fun k => k = B ∨ as_.ownBlock = some k ∨ am.ownBlock = some k ∨ l.ownBlock = some k) W W')
  (h1 : ∀ k, as_'.ownBlock = some k → as_.ownBlock = some k ∨ W.heap.size ≤ k) (h2 : ∀ k, am'.ownBlock = some k → am.ownBlock = some k ∨ W.heap.size ≤ k) (h3 : ∀ k, l1.ownBlock = some k → l.ownBlock = some k ∨ W.heap.size ≤ k) (h4 : ∀ k, l2.ownBlock = some k → l.ownBlock = some k ∨ W.heap.size ≤ k) (h5 : ∀ k, l3.ownBlock = some k → l.ownBlock = some k ∨ W.heap.size ≤ k) :
  ∃ O', LawS W' base O' B vl ps pm as_' am' es em prs P (A ++ [⟨l, N, x⟩, ⟨l1, N + 1, x⟩, ⟨l2, N + 2, x⟩, ⟨l3, N + 3, x⟩]) E (nx + 1) ∧ Below base W W' := by
 have hz := hK.size
 obtain ⟨O', hOd⟩ : ∃ O' : Nat → Prop, O' = fun k => O k ∨ l.ownBlock = some k ∨ (W.heap.size ≤ k ∧ k < W'.heap.size) := ⟨_, rfl⟩
 have hO' : ∀ j, O j → O' j := fun j hj => by rw [hOd]; exact .inl hj
 have hOl : ∀ j, l.ownBlock = some j → O' j := fun j hj => by rw [hOd]; exact .inr (.inl hj)
 have hOn : ∀ j, W.heap.size ≤ j → j < W'.heap.size → O' j := fun j hj hj' => by rw [hOd]; exact .inr (.inr ⟨hj, hj'⟩)
 have hkeep : ∀ j, O j → j ≠ B → as_.ownBlock ≠ some j → am.ownBlock ≠ some j → W'.heap[j]? = W.heap[j]? := fun j hj n1 n2 n3 => hK.block j (h.lt j hj) (by
  rintro (e | e | e | e)
  ·exact n1 e
  ·exact n2 e
  ·exact n3 e
  ·exact (hl j e).1 hj)
 have hpk : ∀ p ∈ prs, ∀ j, (p.F j ∨ p.G j) → W'.heap[j]? = W.heap[j]? := fun p hp j hj => hK.block j ((h.ok p hp).lt j hj) (by
  have hd := h.dis.1 p hp j
  have hno : ¬ O j := fun ho => by
   rcases hj with h' | h'
   ·exact (hd ho).1 h'
   ·exact (hd ho).2 h'
  rintro (e | e | e | e)
  ·exact hno (e ▸ h.own.1)
  ·exact hno (h.la.own.1 j e)
  ·exact hno (h.la.own.2 j e)
  ·exact (hl j e).2.1 p hp hj)
 have hapP : ∀ j, am.ownBlock = some j → pm.ownBlock ≠ some j := fun j e1 e2 => (h.apart.1 j e2).1 e1
 have hapE : ∀ j, am.ownBlock = some j → em.ownBlock ≠ some j := fun j e1 e2 => h.apart.2 j e1 e2
 have hbpP : ∀ j, am'.ownBlock = some j → pm.ownBlock ≠ some j := fun j e1 e2 => by
  rcases h2 j e1 with h' | h'
  ·exact hapP j h' e2
  ·have := h.lt j (h.lp.own.2 j e2); omega
 have hbpE : ∀ j, am'.ownBlock = some j → em.ownBlock ≠ some j := fun j e1 e2 => by
  rcases h2 j e1 with h' | h'
  ·exact hapE j h' e2
  ·have := h.lt j (h.le.own.2 j e2); omega
 have sP : Lists W' O' 105 31 mP ps pm P := by
  have hq := h.lp
  refine ⟨own_same hq.rv fun j ej => ?_, own_same hq.rm fun j ej => ?_, fun d hd => ⟨(hq.ent d hd).1.kept fun j c ej hc => ?_, (hq.ent d hd).2.1, fun j ej => hO' j ((hq.ent d hd).2.2 j ej)⟩, fun j ej => hO' j (hq.own.1 j ej), fun j ej => hO' j (hq.own.2 j ej)⟩
  ·obtain ⟨c, hc⟩ := own_blk hq.rv ej
   exact hkeep j (hq.own.1 j ej) (kind_ne hc h.box (by decide)) (fun e' => own_far h.la.rv hc (by decide) e'.symm) (fun e' => own_far h.la.rm hc (by decide) e'.symm)
  ·obtain ⟨c, hc⟩ := own_blk hq.rm ej
   exact hkeep j (hq.own.2 j ej) (kind_ne hc h.box (by decide)) (fun e' => own_far h.la.rv hc (by decide) e'.symm) (fun e' => hapP j e' ej)
  ·exact hkeep j ((hq.ent d hd).2.2 j ej) (kind_ne hc h.box (by decide)) (fun e' => own_far h.la.rv hc (by decide) e'.symm) (fun e' => own_far h.la.rm hc (by decide) e'.symm)
 have sE : Lists W' O' 167 85 mE es em E := by
  have hq := h.le
  refine ⟨own_same hq.rv fun j ej => ?_, own_same hq.rm fun j ej => ?_, fun d hd => ⟨(hq.ent d hd).1.kept fun j c ej hc => ?_, (hq.ent d hd).2.1, fun j ej => hO' j ((hq.ent d hd).2.2 j ej)⟩, fun j ej => hO' j (hq.own.1 j ej), fun j ej => hO' j (hq.own.2 j ej)⟩
  ·obtain ⟨c, hc⟩ := own_blk hq.rv ej
   exact hkeep j (hq.own.1 j ej) (kind_ne hc h.box (by decide)) (fun e' => own_far h.la.rv hc (by decide) e'.symm) (fun e' => own_far h.la.rm hc (by decide) e'.symm)
  ·obtain ⟨c, hc⟩ := own_blk hq.rm ej
   exact hkeep j (hq.own.2 j ej) (kind_ne hc h.box (by decide)) (fun e' => own_far h.la.rv hc (by decide) e'.symm) (fun e' => hapE j e' ej)
  ·exact hkeep j ((hq.ent d hd).2.2 j ej) (kind_ne hc h.box (by decide)) (fun e' => own_far h.la.rv hc (by decide) e'.symm) (fun e' => own_far h.la.rm hc (by decide) e'.symm)
 have sA : Lists W' O' 66 63 mP as_' am' (A ++ [⟨l, N, x⟩, ⟨l1, N + 1, x⟩, ⟨l2, N + 2, x⟩, ⟨l3, N + 3, x⟩]) := by
  refine ⟨?_, ?_, fun d hd => ?_, fun j ej => ?_, fun j ej => ?_⟩
  ·rw [List.length_append, List.map_append]; exact hrv
  ·rw [List.length_append, List.map_append]; exact hrm
  ·rcases List.mem_append.1 hd with hd | hd
   ·obtain ⟨m1, m2, m3⟩ := h.la.ent d hd
    exact ⟨m1.kept fun j c ej hc => hkeep j (m3 j ej) (kind_ne hc h.box (by decide)) (fun e' => own_far h.la.rv hc (by decide) e'.symm) (fun e' => own_far h.la.rm hc (by decide) e'.symm), m2, fun j ej => hO' j (m3 j ej)⟩
   ·have hmo : ∀ (v : Value) (n : Nat), MarkK W' 66 (mP x) v n → (∀ j, v.ownBlock = some j → l.ownBlock = some j ∨ W.heap.size ≤ j) → ∀ j, v.ownBlock = some j → O' j := fun v n hv hh j ej => by
     rcases hh j ej with h' | h'
     ·exact hOl j h'
     ·refine hOn j h' ?_
      rcases hv with ⟨rfl, _⟩ | ⟨g, cap, cur, rfl, hg, _⟩
      ·simp [Value.ownBlock] at ej
      ·have e' : g = j := by simpa [Value.ownBlock] using ej
       rw [← e']; exact (Array.getElem?_eq_some_iff.1 hg).1
    simp only [List.mem_cons, List.not_mem_nil, or_false] at hd
    rcases hd with rfl | rfl | rfl | rfl
    ·exact ⟨hm.1, by simp only; omega, fun j ej => hOl j ej⟩
    ·exact ⟨hm.2.1, by simp only; omega, hmo _ _ hm.2.1 h3⟩
    ·exact ⟨hm.2.2.1, by simp only; omega, hmo _ _ hm.2.2.1 h4⟩
    ·exact ⟨hm.2.2.2, by simp only; omega, hmo _ _ hm.2.2.2 h5⟩
  ·rcases h1 j ej with h' | h'
   ·exact hO' j (h.la.own.1 j h')
   ·exact hOn j h' (hrv.lt j ej).2
  ·rcases h2 j ej with h' | h'
   ·exact hO' j (h.la.own.2 j h')
   ·exact hOn j h' (hrm.lt j ej).2
 have hbs : ∀ j, O' j → base ≤ j := fun j hj => by
  rw [hOd] at hj
  rcases hj with h' | h' | h'
  ·exact h.base.1 j h'
  ·exact (hl j h').2.2.1
  ·have a1 := h.base.1 B h.own.1
   have a2 := h.lt B h.own.1
   omega
 refine ⟨O', ⟨hb, sP, sA, sE, ⟨fun j ej => ⟨fun e2 => hbpP j e2 ej, (h.apart.1 j ej).2⟩, fun j ej => hbpE j ej⟩, own_same h.row fun j ej => ?_, ⟨hO' _ h.own.1, fun j ej => hO' j (h.own.2.1 j ej), fun p hp => hO' _ (h.own.2.2 p hp)⟩, fun p hp => (h.ok p hp).same hz ?_ (hpk p hp), ⟨fun p hp j hj => ?_, h.dis.2⟩, fun j hj => ?_, hbs, h.base.2⟩, ?_⟩
 ·obtain ⟨c, hc⟩ := own_blk h.row ej
  exact hkeep j (h.own.2.1 j ej) (kind_ne hc h.box (by decide)) (fun e' => own_far h.la.rv hc (by decide) e'.symm) (fun e' => own_far h.la.rm hc (by decide) e'.symm)
 ·have hc := (h.ok p hp).pair
  exact hkeep _ (h.own.2.2 p hp) (kind_ne hc h.box (by decide)) (fun e' => own_far h.la.rv hc (by decide) e'.symm) (fun e' => own_far h.la.rm hc (by decide) e'.symm)
 ·rw [hOd] at hj
  rcases hj with h' | h' | h'
  ·exact h.dis.1 p hp j h'
  ·have := (hl j h').2.1 p hp
   exact ⟨fun e => this (.inl e), fun e => this (.inr e)⟩
  ·refine ⟨fun e => ?_, fun e => ?_⟩
   ·have := (h.ok p hp).lt j (.inl e); omega
   ·have := (h.ok p hp).lt j (.inr e); omega
 ·rw [hOd] at hj
  rcases hj with h' | h' | h'
  ·exact Nat.lt_of_lt_of_le (h.lt j h') hz
  ·exact Nat.lt_of_lt_of_le (hl j h').2.2.2 hz
  ·exact h'.2
 ·have a1 := h.base.1 B h.own.1
  have a2 := h.lt B h.own.1
  refine ⟨hK.os, hK.tape, hK.output, hz, fun j hj => hK.block j (by omega) ?_⟩
  rintro (e | e | e | e)
  ·omega
  ·have := h.base.1 j (h.la.own.1 j e); omega
  ·have := h.base.1 j (h.la.own.2 j e); omega
  ·have := (hl j e).2.2.1; omega
theorem LawS.tookE (h : LawS W base O B vl ps pm as_ am es em prs P A E nx) {l : Value} {N : Nat} (hN : N ≤ 33554432) (hl : ∀ k, l.ownBlock = some k → ¬ O k ∧ (∀ p ∈ prs, ¬ (p.F k ∨ p.G k)) ∧ base ≤ k ∧ k < W.heap.size) {es' em' l1 l2 l3 : Value} {x : Int}
  (hb : W'.heap[B]? = some (bookO vl ps pm as_ am es' em' (nx + 1))) (hrv : W'.ownsRow 0 85 1 es' (E.length + 4) (E.map (·.v) ++ [l, l1, l2, l3])) (hrm : W'.ownsRow 0 3 1 em' (E.length + 4) ((E.map fun e => Value.int .i64 e.x) ++ [.int .i64 x, .int .i64 x, .int .i64 x, .int .i64 x]))
  (hm : MarkK W' 167 (mE x) l N ∧ MarkK W' 167 (mE x) l1 (N + 1) ∧ MarkK W' 167 (mE x) l2 (N + 2) ∧ MarkK W' 167 (mE x) l3 (N + 3)) (hK : Keeps (fun k => k = B ∨ es.ownBlock = some k ∨ em.ownBlock = some k ∨ l.ownBlock = some k) W W')
  (h1 : ∀ k, es'.ownBlock = some k → es.ownBlock = some k ∨ W.heap.size ≤ k) (h2 : ∀ k, em'.ownBlock = some k → em.ownBlock = some k ∨ W.heap.size ≤ k) (h3 : ∀ k, l1.ownBlock = some k → l.ownBlock = some k ∨ W.heap.size ≤ k) (h4 : ∀ k, l2.ownBlock = some k → l.ownBlock = some k ∨ W.heap.size ≤ k) (h5 : ∀ k, l3.ownBlock = some k → l.ownBlock = some k ∨ W.heap.size ≤ k) :
  ∃ O', LawS W' base O' B vl ps pm as_ am es' em' prs P A (E ++ [⟨l, N, x⟩, ⟨l1, N + 1, x⟩, ⟨l2, N + 2, x⟩, ⟨l3, N + 3, x⟩]) (nx + 1) ∧ Below base W W' := by
 have hz := hK.size
 obtain ⟨O', hOd⟩ : ∃ O' : Nat → Prop, O' = fun k => O k ∨ l.ownBlock = some k ∨ (W.heap.size ≤ k ∧ k < W'.heap.size) := ⟨_, rfl⟩
 have hO' : ∀ j, O j → O' j := fun j hj => by rw [hOd]; exact .inl hj
 have hOl : ∀ j, l.ownBlock = some j → O' j := fun j hj => by rw [hOd]; exact .inr (.inl hj)
 have hOn : ∀ j, W.heap.size ≤ j → j < W'.heap.size → O' j := fun j hj hj' => by rw [hOd]; exact .inr (.inr ⟨hj, hj'⟩)
 have hkeep : ∀ j, O j → j ≠ B → es.ownBlock ≠ some j → em.ownBlock ≠ some j → W'.heap[j]? = W.heap[j]? := fun j hj n1 n2 n3 => hK.block j (h.lt j hj) (by
  rintro (e | e | e | e)
  ·exact n1 e
  ·exact n2 e
  ·exact n3 e
  ·exact (hl j e).1 hj)
 have hpk : ∀ p ∈ prs, ∀ j, (p.F j ∨ p.G j) → W'.heap[j]? = W.heap[j]? := fun p hp j hj => hK.block j ((h.ok p hp).lt j hj) (by
  have hd := h.dis.1 p hp j
  have hno : ¬ O j := fun ho => by
   rcases hj with h' | h'
   ·exact (hd ho).1 h'
   ·exact (hd ho).2 h'
  rintro (e | e | e | e)
  ·exact hno (e ▸ h.own.1)
  ·exact hno (h.le.own.1 j e)
  ·exact hno (h.le.own.2 j e)
  ·exact (hl j e).2.1 p hp hj)
 have hapP : ∀ j, em.ownBlock = some j → pm.ownBlock ≠ some j := fun j e1 e2 => (h.apart.1 j e2).2 e1
 have hapA : ∀ j, em.ownBlock = some j → am.ownBlock ≠ some j := fun j e1 e2 => h.apart.2 j e2 e1
 have hbpP : ∀ j, em'.ownBlock = some j → pm.ownBlock ≠ some j := fun j e1 e2 => by
  rcases h2 j e1 with h' | h'
  ·exact hapP j h' e2
  ·have := h.lt j (h.lp.own.2 j e2); omega
 have hbpA : ∀ j, em'.ownBlock = some j → am.ownBlock ≠ some j := fun j e1 e2 => by
  rcases h2 j e1 with h' | h'
  ·exact hapA j h' e2
  ·have := h.lt j (h.la.own.2 j e2); omega
 have sP : Lists W' O' 105 31 mP ps pm P := by
  have hq := h.lp
  refine ⟨own_same hq.rv fun j ej => ?_, own_same hq.rm fun j ej => ?_, fun d hd => ⟨(hq.ent d hd).1.kept fun j c ej hc => ?_, (hq.ent d hd).2.1, fun j ej => hO' j ((hq.ent d hd).2.2 j ej)⟩, fun j ej => hO' j (hq.own.1 j ej), fun j ej => hO' j (hq.own.2 j ej)⟩
  ·obtain ⟨c, hc⟩ := own_blk hq.rv ej
   exact hkeep j (hq.own.1 j ej) (kind_ne hc h.box (by decide)) (fun e' => own_far h.le.rv hc (by decide) e'.symm) (fun e' => own_far h.le.rm hc (by decide) e'.symm)
  ·obtain ⟨c, hc⟩ := own_blk hq.rm ej
   exact hkeep j (hq.own.2 j ej) (kind_ne hc h.box (by decide)) (fun e' => own_far h.le.rv hc (by decide) e'.symm) (fun e' => hapP j e' ej)
  ·exact hkeep j ((hq.ent d hd).2.2 j ej) (kind_ne hc h.box (by decide)) (fun e' => own_far h.le.rv hc (by decide) e'.symm) (fun e' => own_far h.le.rm hc (by decide) e'.symm)
 have sA : Lists W' O' 66 63 mP as_ am A := by
  have hq := h.la
  refine ⟨own_same hq.rv fun j ej => ?_, own_same hq.rm fun j ej => ?_, fun d hd => ⟨(hq.ent d hd).1.kept fun j c ej hc => ?_, (hq.ent d hd).2.1, fun j ej => hO' j ((hq.ent d hd).2.2 j ej)⟩, fun j ej => hO' j (hq.own.1 j ej), fun j ej => hO' j (hq.own.2 j ej)⟩
  ·obtain ⟨c, hc⟩ := own_blk hq.rv ej
   exact hkeep j (hq.own.1 j ej) (kind_ne hc h.box (by decide)) (fun e' => own_far h.le.rv hc (by decide) e'.symm) (fun e' => own_far h.le.rm hc (by decide) e'.symm)
  ·obtain ⟨c, hc⟩ := own_blk hq.rm ej
   exact hkeep j (hq.own.2 j ej) (kind_ne hc h.box (by decide)) (fun e' => own_far h.le.rv hc (by decide) e'.symm) (fun e' => hapA j e' ej)
  ·exact hkeep j ((hq.ent d hd).2.2 j ej) (kind_ne hc h.box (by decide)) (fun e' => own_far h.le.rv hc (by decide) e'.symm) (fun e' => own_far h.le.rm hc (by decide) e'.symm)
 have sE : Lists W' O' 167 85 mE es' em' (E ++ [⟨l, N, x⟩, ⟨l1, N + 1, x⟩, ⟨l2, N + 2, x⟩, ⟨l3, N + 3, x⟩]) := by
  refine ⟨?_, ?_, fun d hd => ?_, fun j ej => ?_, fun j ej => ?_⟩
  ·rw [List.length_append, List.map_append]; exact hrv
  ·rw [List.length_append, List.map_append]; exact hrm
  ·rcases List.mem_append.1 hd with hd | hd
   ·obtain ⟨m1, m2, m3⟩ := h.le.ent d hd
    exact ⟨m1.kept fun j c ej hc => hkeep j (m3 j ej) (kind_ne hc h.box (by decide)) (fun e' => own_far h.le.rv hc (by decide) e'.symm) (fun e' => own_far h.le.rm hc (by decide) e'.symm), m2, fun j ej => hO' j (m3 j ej)⟩
   ·have hmo : ∀ (v : Value) (n : Nat), MarkK W' 167 (mE x) v n → (∀ j, v.ownBlock = some j → l.ownBlock = some j ∨ W.heap.size ≤ j) → ∀ j, v.ownBlock = some j → O' j := fun v n hv hh j ej => by
     rcases hh j ej with h' | h'
     ·exact hOl j h'
     ·refine hOn j h' ?_
      rcases hv with ⟨rfl, _⟩ | ⟨g, cap, cur, rfl, hg, _⟩
      ·simp [Value.ownBlock] at ej
      ·have e' : g = j := by simpa [Value.ownBlock] using ej
       rw [← e']; exact (Array.getElem?_eq_some_iff.1 hg).1
    simp only [List.mem_cons, List.not_mem_nil, or_false] at hd
    rcases hd with rfl | rfl | rfl | rfl
    ·exact ⟨hm.1, by simp only; omega, fun j ej => hOl j ej⟩
    ·exact ⟨hm.2.1, by simp only; omega, hmo _ _ hm.2.1 h3⟩
    ·exact ⟨hm.2.2.1, by simp only; omega, hmo _ _ hm.2.2.1 h4⟩
    ·exact ⟨hm.2.2.2, by simp only; omega, hmo _ _ hm.2.2.2 h5⟩
  ·rcases h1 j ej with h' | h'
   ·exact hO' j (h.le.own.1 j h')
   ·exact hOn j h' (hrv.lt j ej).2
  ·rcases h2 j ej with h' | h'
   ·exact hO' j (h.le.own.2 j h')
   ·exact hOn j h' (hrm.lt j ej).2
 have hbs : ∀ j, O' j → base ≤ j := fun j hj => by
  rw [hOd] at hj
  rcases hj with h' | h' | h'
  ·exact h.base.1 j h'
  ·exact (hl j h').2.2.1
  ·have a1 := h.base.1 B h.own.1
   have a2 := h.lt B h.own.1
   omega
 refine ⟨O', ⟨hb, sP, sA, sE, ⟨fun j ej => ⟨(h.apart.1 j ej).1, fun e2 => hbpP j e2 ej⟩, fun j ej e2 => hbpA j e2 ej⟩, own_same h.row fun j ej => ?_, ⟨hO' _ h.own.1, fun j ej => hO' j (h.own.2.1 j ej), fun p hp => hO' _ (h.own.2.2 p hp)⟩, fun p hp => (h.ok p hp).same hz ?_ (hpk p hp), ⟨fun p hp j hj => ?_, h.dis.2⟩, fun j hj => ?_, hbs, h.base.2⟩, ?_⟩
 ·obtain ⟨c, hc⟩ := own_blk h.row ej
  exact hkeep j (h.own.2.1 j ej) (kind_ne hc h.box (by decide)) (fun e' => own_far h.le.rv hc (by decide) e'.symm) (fun e' => own_far h.le.rm hc (by decide) e'.symm)
 ·have hc := (h.ok p hp).pair
  exact hkeep _ (h.own.2.2 p hp) (kind_ne hc h.box (by decide)) (fun e' => own_far h.le.rv hc (by decide) e'.symm) (fun e' => own_far h.le.rm hc (by decide) e'.symm)
 ·rw [hOd] at hj
  rcases hj with h' | h' | h'
  ·exact h.dis.1 p hp j h'
  ·have := (hl j h').2.1 p hp
   exact ⟨fun e => this (.inl e), fun e => this (.inr e)⟩
  ·refine ⟨fun e => ?_, fun e => ?_⟩
   ·have := (h.ok p hp).lt j (.inl e); omega
   ·have := (h.ok p hp).lt j (.inr e); omega
 ·rw [hOd] at hj
  rcases hj with h' | h' | h'
  ·exact Nat.lt_of_lt_of_le (h.lt j h') hz
  ·exact Nat.lt_of_lt_of_le (hl j h').2.2.2 hz
  ·exact h'.2
 ·have a1 := h.base.1 B h.own.1
  have a2 := h.lt B h.own.1
  refine ⟨hK.os, hK.tape, hK.output, hz, fun j hj => hK.block j (by omega) ?_⟩
  rintro (e | e | e | e)
  ·omega
  ·have := h.base.1 j (h.le.own.1 j e); omega
  ·have := h.base.1 j (h.le.own.2 j e); omega
  ·have := (hl j e).2.2.1; omega
end
end Go.Proofs.YtefdokkadckbbaaGreatDoor
end
