/- 'Asks': for every script whose reading is of bulk at most 1048576 the call returns true, and the script reads as it did (conditions: the two tables of unicode/utf8 lie as the program's text lays them). -/
import Derived.Test.YtefdokkadckbbaaGreatDoorZ09
import Derived.Test.YtefdokkadckbbaaGreatDoorZ53
namespace Go.Proofs.YtefdokkadckbbaaGreatDoor
open Go.RowKit Go.Deep Go.ChangeShapes Go.WideShapes Go.ChangeAt
set_option maxRecDepth 100000
section
variable {H : Type} {enc : TypeId × Value → H} {w : World} {base : Nat} {spare : Nat → Bool} {held : Bool}
theorem ce3q : Tryz.prog.cellsOf 3 = 1 := by kernel_rfl
theorem nums_read {fuel : Nat} {v : Value} {x : DataW H × List MemPlace} (h : DataW.trod enc Tryz.prog w base spare held fuel 28 [v] = some x) :
  ∃ (a : Option Addr) (c : Nat) (hs : List Int), v = .slice a hs.length c ∧ NumSl w v hs ∧ NumLow w.heap.size a hs ∧ hs.length ≤ Rows.uptoBulk x.1 := by
 rcases open_slice Tryz.underlying28 h with ⟨hcs, rfl⟩ | ⟨a, len, cap, m, n, D, Pl, hcs, _, hl, _, hm, rfl, hx⟩
 ·simp only [List.cons.injEq, and_true] at hcs
  subst hcs
  exact ⟨none, 0, [], rfl, ⟨none, 0, rfl, .inl rfl⟩, (fun ad e => by cases e), by simp⟩
 ·simp only [List.cons.injEq, and_true] at hcs
  subst hcs
  have hlm : len ≤ m := by rw [hm]; split <;> omega
  obtain ⟨R, hR⟩ := choose_lt (α := Int) (n := len) (p := fun i r => w.cell? (a.add i) = some (.int .i64 r)) (fun i hi => by
   obtain ⟨cs', h1, h2⟩ := hx i (by omega)
   rw [ce3q] at h1
   obtain ⟨hl1, _, hc⟩ := World.cells?_some h1
   obtain ⟨r, e, _, _⟩ := DataW.trod_int Tryz.underlying3 h2
   subst e
   refine ⟨r, ?_⟩
   have := hc 0 (by omega)
   simpa [add_add] using this)
  have hlen : ((List.range len).map R).length = len := by simp
  have hget : ∀ (j : Nat) (r : Int), ((List.range len).map R)[j]? = some r → j < len ∧ r = R j := by
   intro j r hj
   by_cases hjl : j < len
   ·simp [hjl] at hj; exact ⟨hjl, hj.symm⟩
   ·simp [hjl] at hj
  by_cases h0 : len = 0
  ·subst h0
   exact ⟨some a, cap, [], rfl, ⟨some a, cap, rfl, .inl rfl⟩, (fun ad _ e => absurd rfl e), by simp⟩
  ·obtain ⟨b, off, spot⟩ := a
   have hc0 := hR 0 (by omega)
   have hspot : spot = none := by simpa [Addr.add] using World.cell?_spot (show w.cell? ((⟨b, off, spot⟩ : Addr).add 0) = some _ from hc0)
   subst hspot
   have hcell : w.cell? ⟨b, off, none⟩ = some (.int .i64 (R 0)) := by simpa [Addr.add] using hc0
   have hblk : b < w.heap.size := by
    unfold World.cell? at hcell
    cases hh : w.heap[b]? with
    | none => simp [hh] at hcell
    | some o => exact (Array.getElem?_eq_some_iff.1 hh).1
   refine ⟨some ⟨b, off, none⟩, cap, (List.range len).map R, by rw [hlen], ⟨_, cap, by rw [hlen], .inr ⟨b, off, rfl, hblk, by rw [hlen]; exact hl, fun j r hj => ?_⟩⟩, (fun ad e _ => by cases e; exact hblk), ?_⟩
   ·obtain ⟨hjl, rfl⟩ := hget j r hj
    have := hR j hjl
    rw [add_plain] at this
    exact this
   ·rw [hlen]
    have := length_le ((List.range len).map D)
    simp only [List.length_map, List.length_range] at this
    simp only [Rows.uptoBulk]; omega
theorem op_textA {fuel : Nat} {p : OpR} {x : DataW H × List MemPlace} (h : DataW.trod enc Tryz.prog w base spare held fuel 33 (opc p) = some x) : p.s.size ≤ Rows.uptoBulk x.1 := by
 obtain ⟨y0, y1, y2, y3, y4, y5, y6, n, hx, _, _, _, _, _, h4, _, _⟩ := trodS7 Tryz.underlying33 h
 rw [hx]
 simp only [Rows.uptoBulk, Rows.uptoBulkAll]
 simp only [opc, ce9, List.drop_zero, List.drop_succ_cons, List.take_succ_cons, List.take_zero] at h4
 obtain ⟨s, e4, rfl, _⟩ := DataW.trod_string Tryz.underlying9 h4
 simp only [List.cons.injEq, and_true, Value.string.injEq] at e4
 subst e4
 have : p.s.data.toList.length = p.s.size := rfl
 simp only [Rows.uptoBulk]
 omega
theorem op_numsA {fuel : Nat} {p : OpR} {x : DataW H × List MemPlace} (h : DataW.trod enc Tryz.prog w base spare held fuel 33 (opc p) = some x) (hb : Rows.uptoBulk x.1 ≤ 1048576) : AskOp0 w p := by
 refine ⟨Nat.le_trans (op_textA h) hb, ?_⟩
 obtain ⟨y0, y1, y2, y3, y4, y5, y6, n, hx, _, _, _, _, _, _, h5, _⟩ := trodS7 Tryz.underlying33 h
 rw [hx] at hb
 simp only [Rows.uptoBulk, Rows.uptoBulkAll] at hb
 simp only [opc, ce38, List.drop_zero, List.drop_succ_cons, List.take_succ_cons, List.take_zero] at h5
 obtain ⟨q0, q1, q2, q3, q4, n'', hq, _, r0, _⟩ := trodS5 Tryz.underlying30 h5
 simp only [ce28, List.drop_zero, List.take_succ_cons, List.take_zero] at r0
 obtain ⟨a, c, hs, e, h1, h2, h3⟩ := nums_read r0
 rw [hq] at hb
 simp only [Rows.uptoBulk, Rows.uptoBulkAll] at hb
 simp only [Value.slice.injEq] at e
 obtain ⟨e1, e2, e3⟩ := e
 exact ⟨hs, e2, h1, by rw [e1]; exact h2, by omega⟩
theorem script_asks {fuel : Nat} {v : Value} {x : DataW H × List MemPlace} (h : DataW.trod enc Tryz.prog w base spare held fuel 22 [v] = some x) (hb : Rows.uptoBulk x.1 ≤ 1048576) :
  ∃ (a : Option Addr) (c : Nat) (ps : List OpR), v = .slice a ps.length c ∧ ps.length ≤ 1048576 ∧
   ∀ (j : Nat) (p : OpR), ps[j]? = some p → ∃ g o, a = some ⟨g, o, none⟩ ∧ g < w.heap.size ∧ OpAt w g (o + j * 18) p ∧ AskOp0 w p := by
 rcases open_slice Tryz.underlying22 h with ⟨hcs, rfl⟩ | ⟨a, len, cap, m, n, D, Pl, hcs, _, hl, _, hm, rfl, hx⟩
 ·simp only [List.cons.injEq, and_true] at hcs
  subst hcs
  exact ⟨none, 0, [], rfl, by simp, fun j r hj => by simp at hj⟩
 ·simp only [List.cons.injEq, and_true] at hcs
  subst hcs
  have hlm : len ≤ m := by rw [hm]; split <;> omega
  have hbl : Rows.uptoBulkAll ((List.range len).map D) ≤ 1048576 := by
   have hb' := hb
   simp only [Rows.uptoBulk] at hb'
   omega
  obtain ⟨_hin⟩ := some_op
  obtain ⟨R, hR⟩ := choose_lt (α := OpR) (n := len) (p := fun i r => (∀ k, k < 18 → w.cell? (a.add (i * 18 + k)) = (opc r)[k]?) ∧ AskOp0 w r) (fun i hi => by
   obtain ⟨cs', h1, h2⟩ := hx i (by omega)
   have hmem : D i ∈ (List.range len).map D := List.mem_map_of_mem (List.mem_range.2 hi)
   have hle := part_le hmem
   obtain ⟨r, rfl, _⟩ := op_read h2 (by show Rows.uptoBulk (D i) ≤ 1048576; omega)
   have hd : AskOp0 w r := op_numsA h2 (by show Rows.uptoBulk (D i) ≤ 1048576; omega)
   rw [ce44] at h1
   obtain ⟨_, _, hc⟩ := World.cells?_some h1
   exact ⟨r, fun k hk => by rw [← add_add]; exact hc k hk, hd⟩)
  have hlen : ((List.range len).map R).length = len := by simp
  refine ⟨some a, cap, (List.range len).map R, by rw [hlen], ?_, ?_⟩
  ·rw [hlen]
   have := length_le ((List.range len).map D)
   simp only [List.length_map, List.length_range] at this
   omega
  ·intro j r hj
   have hjl : j < len := by
    by_cases hjl : j < len
    ·exact hjl
    ·simp [hjl] at hj
   simp [hjl] at hj
   subst hj
   obtain ⟨hc, hgood⟩ := hR j hjl
   obtain ⟨b, off, spot⟩ := a
   have hc0 := (hR 0 (by omega)).1 0 (by omega)
   simp only [Nat.zero_mul, Nat.add_zero] at hc0
   have hspot : spot = none := by simpa [Addr.add] using World.cell?_spot (show w.cell? ((⟨b, off, spot⟩ : Addr).add 0) = some _ from hc0)
   subst hspot
   have hcell : w.cell? ⟨b, off, none⟩ = some (.int .i64 (R 0).kind) := by simpa [Addr.add, opc] using hc0
   have hblk : b < w.heap.size := by
    unfold World.cell? at hcell
    cases hh : w.heap[b]? with
    | none => simp [hh] at hcell
    | some o => exact (Array.getElem?_eq_some_iff.1 hh).1
   refine ⟨b, off, rfl, hblk, opAt_of fun k hk => ?_, hgood⟩
   have := hc k hk
   rw [add_plain] at this
   rw [Nat.add_assoc]; exact this
end
theorem good_of_shapeQ {W : World} (h : W.ShapedOpen Tryz.prog) : Good W := by
 obtain ⟨m, hm⟩ := cell_of_shapedOpen_int (g := 0) (t := 3) (zero := #[.int .i64 0]) (k := .i64) h (of_decide_eq_true (by kernel_rfl)) (by kernel_rfl) rfl (by kernel_rfl) (by kernel_rfl) Tryz.underlying3
 refine ⟨?_, m, hm⟩
 unfold World.cell? at hm
 cases hh : W.heap[0]? with
 | none => simp [hh] at hm
 | some o => exact (Array.getElem?_eq_some_iff.1 hh).1
theorem laidOutQ : laidOutB Tryz.prog = true := by kernel_rfl
theorem boundQ {H : Type} {l : List (DataW H)} (hk : Rows.uptoSmall H l = true) : Rows.uptoBulkAll l ≤ 1048576 := of_decide_eq_true hk
theorem contractQ (H : Type) (enc : TypeId × Value → H) (W : World) (base : Nat) (args : Array Value) (ds gs : List (DataW H)) (before : List MemPlace)
  (hval0 : ∀ (j : Nat) t v, Tryz.f5.params[j]? = some t → args[j]? = some v → Value.okWide Tryz.prog W .any base t v)
  (hW : DataW.Whole enc Tryz.prog Tryz.f5.params.toList Rows.asksSpec.vars false W args.toList ds gs before) (hk : Rows.uptoSmall H (ds ++ gs) = true) (hsh : W.ShapedOpen Tryz.prog) :
  Calls Tryz.prog 5 args W fun e W' => ∃ v, e = .returned v ∧ Rows.asksSpec.post enc Tryz.prog Tryz.f5 false true false false W args v W' := by
 have hval := hval0
 have hW' := hW
 obtain ⟨p, q, hA0, hV, rfl, hfz, hnd⟩ := hW
 have hA : DataW.TrodAll enc Tryz.prog W 0 (fun _ => true) true Tryz.f5.params.toList args.toList ds p := hA0
 rw [Tryz.params5] at hA hval
 obtain ⟨v0, d0, rfl, rfl, h0⟩ := trodAll_one hA
 obtain ⟨rfl, rfl⟩ := trodVars_none hV
 clear hA0
 obtain ⟨a0, n0, c0, rfl⟩ := okWide_slice Tryz.underlying22 (hval 0 22 v0 rfl rfl)
 have hbk := boundQ hk
 simp only [List.append_nil, Rows.uptoBulkAll, Nat.add_zero] at hbk
 have h0k := h0
 obtain ⟨fuel, hf⟩ := h0
 obtain ⟨a, c, ps, hv, hN, hps⟩ := script_asks (w := W) (x := (d0, p)) hf hbk
 rw [hv]
 rw [hv] at hW' h0k
 refine (Asks_any a c ps W (good_of_shapeQ hsh) hN hps).mono fun e W' ⟨he, hb⟩ => ?_
 subst he
 have hlt : ∀ x ∈ p, x.block < W.heap.size := fun x hx => by simpa using hW'.lt x (by simpa using hx)
 simp only [List.append_nil] at hW'
 refine ⟨_, rfl, _, _, _, [], p, [], hW', ?_, ?_, rfl, hb.frame _, fun h => by cases h⟩
 ·exact trodAll_mk1 (shut_bool Tryz.underlying4 _)
 ·exact trodAll_mk1 (Below.trod laidOutQ (by kernel_rfl) (of_decide_eq_true (by kernel_rfl)) h0k hb hlt)
theorem asks_upto_card : Rows.AsksUptoCardSaid := asks_upto_of contractQ
end Go.Proofs.YtefdokkadckbbaaGreatDoor
