/- M1 -/
import Derived.Test.YtefdokkadckbbaaGreatDoorZ12
import Derived.Maps.OwnIn
import Derived.DeepKeys4
namespace Go.Proofs.YtefdokkadckbbaaGreatDoor
open Go.RowKit Go.MapKept Go.Maps
set_option maxRecDepth 100000
theorem laidOut : laidOutB Tryz.prog = true := by kernel_rfl
theorem row261 : (359 : TypeId) < Tryz.prog.types.size := of_decide_eq_true (by kernel_rfl)
theorem wide261 : (match Tryz.prog.underlying 359 with | some (.array _ _) | some (.struct _) => true | _ => false) = true := by kernel_rfl
theorem law261 : Keyed Tryz.prog 359 := Keyed.of_law (deep_law_laid laidOut (m := 3) (by omega) row261 (by kernel_rfl) wide261)
theorem row173 : (208 : TypeId) < Tryz.prog.types.size := of_decide_eq_true (by kernel_rfl)
theorem wide173 : (match Tryz.prog.underlying 208 with | some (.array _ _) | some (.struct _) => true | _ => false) = true := by kernel_rfl
theorem law173 : Keyed Tryz.prog 208 := Keyed.of_law (deep_law_laid laidOut (m := 3) (by omega) row173 (by kernel_rfl) wide173)
theorem kt261 : Tryz.prog.keyType 359 = true := by kernel_rfl
theorem kt173 : Tryz.prog.keyType 208 = true := by kernel_rfl
theorem co261 : Tryz.prog.cellsOf 359 = 3 := by kernel_rfl
theorem co173 : Tryz.prog.cellsOf 208 = 2 := by kernel_rfl
theorem co9 : Tryz.prog.cellsOf 9 = 1 := by kernel_rfl
theorem co3 : Tryz.prog.cellsOf 3 = 1 := by kernel_rfl
theorem hts : 1 ≤ Tryz.prog.types.size := by have : (359 : Nat) < Tryz.prog.types.size := row261; omega
theorem key3 {P : Program} {k s i : TypeId} {f0 f1 f2 : Field} (hk : P.underlying k = some (.struct #[f0, f1, f2])) (kt : P.keyType k = true) (hc : P.cellsOf k = 3) (hs : P.underlying s = some .string) (hi : P.underlying i = some (.int .i64))
  (t0 : f0.type = s) (t1 : f1.type = s) (t2 : f2.type = i) (o0 : f0.offset = 0) (o1 : f1.offset = 1) (o2 : f2.offset = 2) (n0 : (f0.name != "_") = true) (n1 : (f1.name != "_") = true) (n2 : (f2.name != "_") = true) (cs : P.cellsOf s = 1) (ci : P.cellsOf i = 1) (hsz : 1 ≤ P.types.size)
  (a b : ByteArray) (n : Int) (ha : a.size ≤ maxLen) (hb : b.size ≤ maxLen) (hn : (Lit.int .i64 n).wf = true) : ∃ l, keyOf P k (.agg #[.string a, .string b, .int .i64 n]) = some l := by
 obtain ⟨d, hd⟩ : ∃ d, P.types.size + 1 = d + 1 + 1 := ⟨P.types.size - 1, by omega⟩
 refine Option.isSome_iff_exists.1 ?_
 simp only [keyOf, hk, kt, Value.formed, hd, hc]
 simp [Program.keyLits, hk, t0, t1, t2, o0, o1, o2, n0, n1, n2, hs, hi, hc, cs, ci, Value.cells, ha, hb, hn]
theorem key2 {P : Program} {k s i : TypeId} {f0 f2 : Field} (hk : P.underlying k = some (.struct #[f0, f2])) (kt : P.keyType k = true) (hc : P.cellsOf k = 2) (hs : P.underlying s = some .string) (hi : P.underlying i = some (.int .i64))
  (t0 : f0.type = s) (t2 : f2.type = i) (o0 : f0.offset = 0) (o2 : f2.offset = 1) (n0 : (f0.name != "_") = true) (n2 : (f2.name != "_") = true) (cs : P.cellsOf s = 1) (ci : P.cellsOf i = 1) (hsz : 1 ≤ P.types.size)
  (a : ByteArray) (n : Int) (ha : a.size ≤ maxLen) (hn : (Lit.int .i64 n).wf = true) : ∃ l, keyOf P k (.agg #[.string a, .int .i64 n]) = some l := by
 obtain ⟨d, hd⟩ : ∃ d, P.types.size + 1 = d + 1 + 1 := ⟨P.types.size - 1, by omega⟩
 refine Option.isSome_iff_exists.1 ?_
 simp only [keyOf, hk, kt, Value.formed, hd, hc]
 simp [Program.keyLits, hk, t0, t2, o0, o2, n0, n2, hs, hi, hc, cs, ci, Value.cells, ha, hn]
theorem key173 (a : ByteArray) (n : Int) (ha : a.size ≤ maxLen) (hn : (Lit.int .i64 n).wf = true) : ∃ l, keyOf Tryz.prog 208 (.agg #[.string a, .int .i64 n]) = some l :=
 key2 Tryz.underlying208 kt173 co173 Tryz.underlying9 Tryz.underlying3 rfl rfl rfl rfl (by decide) (by decide) co9 co3 hts a n ha hn
theorem key261 (a b : ByteArray) (n : Int) (ha : a.size ≤ maxLen) (hb : b.size ≤ maxLen) (hn : (Lit.int .i64 n).wf = true) : ∃ l, keyOf Tryz.prog 359 (.agg #[.string a, .string b, .int .i64 n]) = some l :=
 key3 Tryz.underlying359 kt261 co261 Tryz.underlying9 Tryz.underlying3 rfl rfl rfl rfl rfl rfl (by decide) (by decide) (by decide) co9 co3 hts a b n ha hb hn
def MapIs (W : World) (P : Program) (kt : TypeId) (m : Nat) (f : Value → Option Value) : Prop :=
 ∃ es clock, W.heap[m]? = some (.map es clock) ∧ Stamped es clock ∧ (∀ e ∈ es.toList, ∃ l, keyOf P kt e.key = some l) ∧ ∀ key v, f key = some v ↔ ∃ e ∈ es.toList, e.key = key ∧ e.val = v
section
variable {P : Program} {W W' : World} {kt et t : TypeId} {m : Nat} {f : Value → Option Value} {key z : Value}
theorem MapIs.same (h : MapIs W P kt m f) (hm : W'.heap[m]? = W.heap[m]?) : MapIs W' P kt m f := by
 obtain ⟨es, clock, hb, r⟩ := h
 exact ⟨es, clock, hm.trans hb, r⟩
theorem MapIs.lt (h : MapIs W P kt m f) : m < W.heap.size := by
 obtain ⟨es, clock, hb, r⟩ := h
 exact (Array.getElem?_eq_some_iff.1 hb).1
theorem MapIs.made (hm : W.heap[m]? = some (.map #[] 0)) : MapIs W P kt m (fun _ => none) :=
 ⟨#[], 0, hm, stamped_empty 0, by simp, by simp⟩
theorem MapIs.look (h : MapIs W P kt m f) (K : Keyed P kt) (ht : P.underlying t = some (.map kt et)) (hz : (zeroValue et).run P W = .ok z W) (hk : ∃ l, keyOf P kt key = some l) :
  (Instr.lookup t (.map (some m)) key false).run P W = .ok ((f key).getD z) W := by
 obtain ⟨es, clock, hb, hs, hks, hf⟩ := h
 obtain ⟨l, hl⟩ := hk
 rcases K.find W hl es.toList hks with ⟨h1, h2⟩ | ⟨j, e, h1, h2, h3⟩
 ·have hn : f key = none := by
   cases hv : f key with
   | none => rfl
   | some v => obtain ⟨e, he, h4, _⟩ := (hf key v).1 hv; exact absurd h4 (h2 e he)
  simp [Instr.lookup, run_underlying ht, MapKept.run_getObj_map hb, K.check W _ hl, h1, hz, Result.andThen, hn]
 ·have hv : f key = some e.val := (hf key e.val).2 ⟨e, List.mem_of_getElem? h2, h3, rfl⟩
  simp [Instr.lookup, run_underlying ht, MapKept.run_getObj_map hb, K.check W _ hl, h1, Result.andThen, hv]
def upd (d : ∀ a b : Value, Decidable (a = b)) (f : Value → Option Value) (key val : Value) : Value → Option Value := fun k => @ite _ (k = key) (d k key) (some val) (f k)
theorem upd_same {d : ∀ a b : Value, Decidable (a = b)} (f : Value → Option Value) (key val : Value) : upd d f key val key = some val := by simp [upd]
theorem upd_other {d : ∀ a b : Value, Decidable (a = b)} (f : Value → Option Value) {key k : Value} (val : Value) (h : k ≠ key) : upd d f key val k = f k := by simp [upd, h]
theorem born_find {es : Array MapEntry} {clock j : Nat} {e : MapEntry} (hs : Stamped es clock) (hj : es[j]? = some e) : es.findIdx? (fun x => ((x.born : Nat) : Int) == (e.born : Int)) = some j := by
 obtain ⟨_, hn, _⟩ := hs
 obtain ⟨hlt, he⟩ := Array.getElem?_eq_some_iff.1 hj
 rw [Array.findIdx?_eq_some_iff_getElem]
 refine ⟨hlt, by simp [he], fun i hi => ?_⟩
 have hil : i < es.size := Nat.lt_trans hi hlt
 have := List.pairwise_iff_getElem.1 hn i j (by simpa using hil) (by simpa using hlt) hi
 simp only [List.getElem_map, Array.getElem_toList] at this
 rw [he] at this
 simp
 intro h
 exact this (by omega)
theorem mem_mod {es : Array MapEntry} {clock j : Nat} {e : MapEntry} (hs : Stamped es clock) (hj : es[j]? = some e) (g : MapEntry → MapEntry) (x : MapEntry) : x ∈ (es.modify j g).toList ↔ (x ∈ es.toList ∧ x.key ≠ e.key) ∨ x = g e := by
 obtain ⟨_, _, hk⟩ := (stamped_iff es clock).1 hs
 have hkk : ∀ i x, es[i]? = some x → i ≠ j → x.key ≠ e.key := by
  intro i x hi hne
  obtain ⟨hli, hei⟩ := Array.getElem?_eq_some_iff.1 hi
  obtain ⟨hlj, hej⟩ := Array.getElem?_eq_some_iff.1 hj
  rcases Nat.lt_or_gt_of_ne hne with hlt | hlt
  ·have := List.pairwise_iff_getElem.1 hk i j (by simpa using hli) (by simpa using hlj) hlt
   simp only [Array.getElem_toList, hei, hej] at this
   exact this
  ·have := List.pairwise_iff_getElem.1 hk j i (by simpa using hlj) (by simpa using hli) hlt
   simp only [Array.getElem_toList, hei, hej] at this
   exact this.symm
 rw [List.mem_iff_getElem?]
 constructor
 ·rintro ⟨i, hi⟩
  rw [Array.getElem?_toList, Array.getElem?_modify] at hi
  by_cases e1 : j = i
  ·subst e1
   rw [if_pos rfl, hj] at hi
   simp at hi
   exact .inr hi.symm
  ·rw [if_neg e1] at hi
   exact .inl ⟨List.mem_iff_getElem?.2 ⟨i, by simpa using hi⟩, hkk i x hi (Ne.symm e1)⟩
 ·rintro (⟨h1, h2⟩ | rfl)
  ·obtain ⟨i, hi⟩ := List.mem_iff_getElem?.1 h1
   rw [Array.getElem?_toList] at hi
   refine ⟨i, ?_⟩
   rw [Array.getElem?_toList, Array.getElem?_modify, if_neg, hi]
   rintro rfl
   rw [hj] at hi
   simp at hi
   exact h2 (by rw [hi])
  ·exact ⟨j, by rw [Array.getElem?_toList, Array.getElem?_modify, if_pos rfl, hj]; rfl⟩
theorem MapIs.bump (h : MapIs W P kt m f) (K : Keyed P kt) (ht : P.underlying t = some (.map kt et)) (hz : (zeroValue et).run P W = .ok z W) (hk : ∃ l, keyOf P kt key = some l) (val : Value) :
  ∃ (v : Value) (born : Nat) (o1 o2 : Obj), (Instr.mapEntry t (.map (some m)) key).run P W = .ok (.tuple #[v, .int .i64 born]) (W.putObj m o1) ∧ (Instr.entryStore t (.map (some m)) (.int .i64 born) val).run P (W.putObj m o1) = .ok () ((W.putObj m o1).putObj m o2) ∧
   MapIs ((W.putObj m o1).putObj m o2) P kt m (upd (fun _ _ => Classical.propDecidable _) f key val) ∧ ∃ f1, MapIs (W.putObj m o1) P kt m f1 ∧ f1 key = some ((f key).getD z) := by
 obtain ⟨es, clock, hb, hs, hks, hf⟩ := h
 obtain ⟨l, hl⟩ := hk
 have hlt := (Array.getElem?_eq_some_iff.1 hb).1
 have hput : ∀ o, (W.putObj m o).heap[m]? = some o := fun o => World.putObj_heap_same hlt
 have hput2 : ∀ o o', ((W.putObj m o).putObj m o').heap[m]? = some o' := fun o o' => World.putObj_heap_same (by simpa using hlt)
 rcases K.find W hl es.toList hks with ⟨h1, h2⟩ | ⟨j, e, h1, h2, h3⟩
 ·have hs' := stamped_push (val := z) hs h2
  have hj : (es.push { key := key, val := z, born := clock })[es.size]? = some { key := key, val := z, born := clock } := by simp
  have hfi := born_find hs' hj
  refine ⟨z, clock, .map (es.push { key := key, val := z, born := clock }) (clock + 1), .map ((es.push { key := key, val := z, born := clock }).modify es.size fun e => { e with val := val }) (clock + 1), ?_, ?_, ?_, ?_⟩
  ·simp [Instr.mapEntry, run_underlying ht, MapKept.run_getObj_map hb, K.check W _ hl, h1, hz, Result.andThen, run_setObj_map _ hb, World.putObj, goInt]
  ·simp [Instr.entryStore, MapKept.run_getObj_map (hput _), Result.andThen, asInt, asIntOf, hfi, run_setObj_map _ (hput _)]
   rfl
  ·have hmem : ∀ x, x ∈ ((es.push { key := key, val := z, born := clock }).modify es.size fun e => { e with val := val }).toList ↔ x ∈ es.toList ∨ x = { key := key, val := val, born := clock } := by
    intro x
    rw [mem_mod hs' hj]
    simp only [Array.toList_push, List.mem_append, List.mem_singleton]
    constructor
    ·rintro (⟨h | rfl, h4⟩ | h)
     ·exact .inl h
     ·exact absurd rfl h4
     ·exact .inr h
    ·rintro (h | h)
     ·exact .inl ⟨.inl h, h2 x h⟩
     ·exact .inr h
   refine ⟨_, _, hput2 _ _, stamped_modify hs' _ _ (fun _ _ => rfl) (fun _ _ _ => rfl), ?_, ?_⟩
   ·intro x hx
    rcases (hmem x).1 hx with h | rfl
    ·exact hks x h
    ·exact ⟨l, hl⟩
   ·intro k v
    by_cases hkk : k = key
    ·subst hkk
     rw [upd_same]
     constructor
     ·intro h
      exact ⟨_, (hmem _).2 (.inr rfl), rfl, by simpa using h⟩
     ·rintro ⟨x, hx, h4, h5⟩
      rcases (hmem x).1 hx with h | rfl
      ·exact absurd h4 (h2 x h)
      ·rw [← h5]
    ·rw [upd_other f val hkk, hf]
     constructor
     ·rintro ⟨x, hx, h4⟩
      exact ⟨x, (hmem x).2 (.inl hx), h4⟩
     ·rintro ⟨x, hx, h4, h5⟩
      rcases (hmem x).1 hx with h | rfl
      ·exact ⟨x, h, h4, h5⟩
      ·exact absurd h4.symm hkk
  ·have hn : f key = none := by
    cases hv : f key with
    | none => rfl
    | some v => obtain ⟨e, he, h4, _⟩ := (hf key v).1 hv; exact absurd h4 (h2 e he)
   refine ⟨upd (fun _ _ => Classical.propDecidable _) f key z, ⟨_, _, hput _, hs', ?_, ?_⟩, by rw [upd_same, hn]; rfl⟩
   ·intro x hx
    simp only [Array.toList_push, List.mem_append, List.mem_singleton] at hx
    rcases hx with hx | rfl
    ·exact hks x hx
    ·exact ⟨l, hl⟩
   ·intro k v
    simp only [Array.toList_push, List.mem_append, List.mem_singleton]
    by_cases hkk : k = key
    ·subst hkk
     rw [upd_same]
     constructor
     ·intro h
      exact ⟨_, .inr rfl, rfl, by simpa using h⟩
     ·rintro ⟨x, hx | rfl, h4, h5⟩
      ·exact absurd h4 (h2 x hx)
      ·rw [← h5]
    ·rw [upd_other f z hkk, hf]
     constructor
     ·rintro ⟨x, hx, h4⟩
      exact ⟨x, .inl hx, h4⟩
     ·rintro ⟨x, hx | rfl, h4, h5⟩
      ·exact ⟨x, hx, h4, h5⟩
      ·exact absurd h4.symm hkk
 ·have hj : es[j]? = some e := by simpa using h2
  have e1 : es.modify j (fun e => { e with key }) = es := by
   apply Array.ext_getElem?
   intro i
   rw [Array.getElem?_modify]
   split
   ·rename_i hi; subst hi
    rw [hj]
    simp [← h3]
   ·rfl
  have hfi := born_find hs hj
  refine ⟨e.val, e.born, .map es clock, .map (es.modify j fun e => { e with val := val }) clock, ?_, ?_, ?_, ?_⟩
  ·have hst : (Instr.keyThatStays key key).run P W = .ok key W := K.stays W hl
   simp [Instr.mapEntry, run_underlying ht, MapKept.run_getObj_map hb, K.check W _ hl, h1, Result.andThen, hj, h3, hst, run_setObj_map _ hb, World.putObj, goInt, e1]
  ·simp [Instr.entryStore, MapKept.run_getObj_map (hput _), Result.andThen, asInt, asIntOf, hfi, run_setObj_map _ (hput _)]
   rfl
  ·have hmem := mem_mod hs hj (fun e => { e with val := val })
   refine ⟨_, _, hput2 _ _, stamped_modify hs _ _ (fun _ _ => rfl) (fun _ _ _ => rfl), ?_, ?_⟩
   ·intro x hx
    rcases (hmem x).1 hx with ⟨h, _⟩ | rfl
    ·exact hks x h
    ·exact ⟨l, by rw [h3]; exact hl⟩
   ·intro k v
    by_cases hkk : k = key
    ·subst hkk
     rw [upd_same]
     constructor
     ·intro h
      exact ⟨_, (hmem _).2 (.inr rfl), h3, by simpa using h⟩
     ·rintro ⟨x, hx, h4, h5⟩
      rcases (hmem x).1 hx with ⟨_, h6⟩ | rfl
      ·exact absurd (h4.trans h3.symm) h6
      ·rw [← h5]
    ·rw [upd_other f val hkk, hf]
     constructor
     ·rintro ⟨x, hx, h4, h5⟩
      exact ⟨x, (hmem x).2 (.inl ⟨hx, by rw [h4, h3]; exact hkk⟩), h4, h5⟩
     ·rintro ⟨x, hx, h4, h5⟩
      rcases (hmem x).1 hx with ⟨h, _⟩ | rfl
      ·exact ⟨x, h, h4, h5⟩
      ·exact absurd (h4.symm.trans h3) hkk
  ·have hv : f key = some e.val := (hf key e.val).2 ⟨e, List.mem_of_getElem? h2, h3, rfl⟩
   exact ⟨f, ⟨es, clock, hput _, hs, hks, hf⟩, by rw [hv]; rfl⟩
end
end Go.Proofs.YtefdokkadckbbaaGreatDoor
