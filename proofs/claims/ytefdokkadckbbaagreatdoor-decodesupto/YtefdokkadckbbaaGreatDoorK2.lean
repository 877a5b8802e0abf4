/- 'Decodep.s: for every script whose reading is of bulk at most 1048576 the call returns true, and the script reads as it did (conditions: the two tables of unicode/utf8 lie as the program's text lays them). -/
import Derived.Test.YtefdokkadckbbaaGreatDoorCards
import Derived.Test.YtefdokkadckbbaaGreatDoorTie
import Derived.Test.YtefdokkadckbbaaGreatDoorF2
import Derived.Test.YtefdokkadckbbaaGreatDoorFa
import Derived.Test.YtefdokkadckbbaaGreatDoorK1
import Derived.OpenShut
import Derived.LaidMore
import Derived.Lay
import Derived.SevenTiedAt
import Derived.Stop.Joined
import Derived.Deep.DeepHandedRow
import Derived.Shelf.Vars
namespace Go.Proofs.YtefdokkadckbbaaGreatDoor
open Go.RowKit Go.Deep Go.ChangeShapes Go.WideShapes Go.ChangeAt
set_option maxRecDepth 100000

section
variable {H : Type} {enc : TypeId × Value → H} {w : World} {base : Nat} {spare : Nat → Bool} {held : Bool}

/-- The text of a step is no greater than the step. -/
theorem op_text {fuel : Nat} {p : OpR} {x : DataW H × List MemPlace} (h : DataW.trod enc Tryz.prog w base spare held fuel 33 (opc p) = some x) : p.s.size ≤ Rows.uptoBulk x.1 := by
  obtain ⟨y0, y1, y2, y3, y4, y5, y6, n, hx, _, _, _, _, _, h4, _, _⟩ := trodS7 Tryz.underlying33 h
  rw [hx]
  simp only [Rows.uptoBulk, Rows.uptoBulkAll]
  simp only [opc, ce9, List.drop_zero, List.drop_succ_cons, List.take_succ_cons, List.take_zero] at h4
  obtain ⟨s, e4, rfl, _⟩ := DataW.trod_string Tryz.underlying9 h4
  simp only [List.cons.injEq, and_true, Value.string.injEq] at e4
  subst e4
  have : p.s.data.toList.length = p.s.size := rfl
  simp only [Rows.uptoBulk]
  omega
/-- A script, read: its steps, whose texts are not great. -/
theorem script_text {fuel : Nat} {v : Value} {x : DataW H × List MemPlace} (h : DataW.trod enc Tryz.prog w base spare held fuel 22 [v] = some x) (hb : Rows.uptoBulk x.1 ≤ 1048576) :
    ∃ (a : Option Addr) (c : Nat) (ps : List OpR), v = .slice a ps.length c ∧ ps.length ≤ 1048576 ∧
      ∀ (j : Nat) (p : OpR), ps[j]? = some p → ∃ g o, a = some ⟨g, o, none⟩ ∧ g < w.heap.size ∧ OpAt w g (o + j * 18) p ∧ p.s.size ≤ 1048576 := by
  rcases open_slice Tryz.underlying22 h with ⟨hcs, rfl⟩ | ⟨a, len, cap, m, n, D, Pl, hcs, _, hl, _, hm, rfl, hx⟩
  · simp only [List.cons.injEq, and_true] at hcs
    subst hcs
    exact ⟨none, 0, [], rfl, by simp, fun j r hj => by simp at hj⟩
  · simp only [List.cons.injEq, and_true] at hcs
    subst hcs
    have hlm : len ≤ m := by rw [hm]; split <;> omega
    have hbl : Rows.uptoBulkAll ((List.range len).map D) ≤ 1048576 := by
      have hb' := hb
      simp only [Rows.uptoBulk] at hb'
      omega
    obtain ⟨_hin⟩ := some_op
    obtain ⟨R, hR⟩ := choose_lt (α := OpR) (n := len) (p := fun i r => (∀ k, k < 18 → w.cell? (a.add (i * 18 + k)) = (opc r)[k]?) ∧ r.s.size ≤ 1048576) (fun i hi => by
      obtain ⟨cs', h1, h2⟩ := hx i (by omega)
      have hmem : D i ∈ (List.range len).map D := List.mem_map_of_mem (List.mem_range.2 hi)
      have hle := part_le hmem
      obtain ⟨r, rfl, _⟩ := op_read h2 (by show Rows.uptoBulk (D i) ≤ 1048576; omega)
      have hd : r.s.size ≤ 1048576 := by have := op_text h2; simp only at this; omega
      rw [ce44] at h1
      obtain ⟨_, _, hc⟩ := World.cells?_some h1
      exact ⟨r, fun k hk => by rw [← add_add]; exact hc k hk, hd⟩)
    have hlen : ((List.range len).map R).length = len := by simp
    refine ⟨some a, cap, (List.range len).map R, by rw [hlen], ?_, ?_⟩
    · rw [hlen]
      have := length_le ((List.range len).map D)
      simp only [List.length_map, List.length_range] at this
      omega
    · intro j r hj
      have hjl : j < len := by
        by_cases hjl : j < len
        · exact hjl
        · simp [hjl] at hj
      simp [hjl] at hj
      subst hj
      obtain ⟨hc, hgood⟩ := hR j hjl
      obtain ⟨b, off, spot⟩ := a
      have hc0 := (hR 0 (by omega)).1 0 (by omega)
      simp only [Nat.zero_mul, Nat.add_zero] at hc0
      have hspot : spot = none := by simpa [Addr.add] using World.cell?_spot (show w.cell? ((⟨b, off, spot⟩ : Addr).add 0) = some _ from hc0)
      subst hspot
      have hcell : w.cell? ⟨b, off, none⟩ = some (.int .i64 (R 0).kind) := by simpa [Addr.add, opc] using hc0
      have hblk : b < w.heap.size := by
        unfold World.cell? at hcell
        cases hh : w.heap[b]? with
        | none => simp [hh] at hcell
        | some o => exact (Array.getElem?_eq_some_iff.1 hh).1
      refine ⟨b, off, rfl, hblk, opAt_of fun k hk => ?_, hgood⟩
      have := hc k hk
      rw [add_plain] at this
      rw [Nat.add_assoc]; exact this
end

theorem ownD : ownKnob Tryz.prog.godebug = none := by kernel_rfl
theorem laidOutD : laidOutB Tryz.prog = true := by kernel_rfl

theorem boundD {H : Type} {l : List (DataW H)} (hk : Rows.uptoSmall H l = true) : Rows.uptoBulkAll l ≤ 1048576 := of_decide_eq_true hk

theorem contractD (H : Type) (enc : TypeId × Value → H) (W : World) (base : Nat) (args : Array Value) (ds gs : List (DataW H)) (before : List MemPlace)
    (hval0 : ∀ (j : Nat) t v, Tryz.f4.params[j]? = some t → args[j]? = some v → Value.okWide Tryz.prog W .any base t v)
    (hW : DataW.Whole enc Tryz.prog Tryz.f4.params.toList Rows.decodesSpec.vars false W args.toList ds gs before) (hk : Rows.uptoSmall H (ds ++ gs) = true) :
    Calls Tryz.prog 4 args W fun e W' => ∃ v, e = .returned v ∧ Rows.decodesSpec.post enc Tryz.prog Tryz.f4 false true false false W args v W' := by
  have hval := hval0
  have hW' := hW
  obtain ⟨p, q, hA0, hV, rfl, hfz, hnd⟩ := hW
  have hA : DataW.TrodAll enc Tryz.prog W 0 (fun _ => true) true Tryz.f4.params.toList args.toList ds p := hA0
  rw [Tryz.params4] at hA hval
  obtain ⟨v0, d0, rfl, rfl, h0⟩ := trodAll_one hA
  obtain ⟨rfl, rfl⟩ := trodVars_none hV
  clear hA0
  obtain ⟨a0, n0, c0, rfl⟩ := okWide_slice Tryz.underlying22 (hval 0 22 v0 rfl rfl)
  have hbk := boundD hk
  simp only [List.append_nil, Rows.uptoBulkAll, Nat.add_zero] at hbk
  have h0k := h0
  obtain ⟨fuel, hf⟩ := h0
  obtain ⟨a, c, ps, hv, hN, hps⟩ := script_text (w := W) (x := (d0, p)) hf hbk
  rw [hv]
  rw [hv] at hW' h0k
  refine (Decodes_any a c ps W hN hps).mono fun e W' ⟨he, hb⟩ => ?_
  subst he
  have hlt : ∀ x ∈ p, x.block < W.heap.size := fun x hx => by simpa using hW'.lt x (by simpa using hx)
  simp only [List.append_nil] at hW'
  refine ⟨_, rfl, _, _, _, [], p, [], hW', ?_, ?_, rfl, hb.frame _, fun h => by cases h⟩
  · exact trodAll_mk1 (shut_bool Tryz.underlying4 _)
  · exact trodAll_mk1 (Below.trod laidOutD (by kernel_rfl) (of_decide_eq_true (by kernel_rfl)) h0k hb hlt)

/-- The witness: nothing is asked, in a world in which the two tables lie. -/
theorem laid_metD (os : Os) : laidMet Tryz.prog Rows.decodesUptoRow.laid ((World.laidAll Tryz.prog os Rows.decodesUptoRow.laid).forCall (fun _ _ => 0) ⟨#[], #[.slice none 0 0], []⟩).memory :=
  laidMet_of_run' 8 (by kernel_rfl) (by kernel_rfl)
theorem readsD (os : Os) {H : Type} (enc : TypeId × Value → H) : ∃ places, DataW.whole enc Tryz.prog ((World.laidAll Tryz.prog os Rows.decodesUptoRow.laid).forCall (fun _ _ => 0) ⟨#[], #[.slice none 0 0], []⟩).memory Tryz.f4.params.toList Rows.decodesSpec.vars false #[Value.slice none 0 0].toList 8 = some ([.nil], [], places) :=
  ⟨[], by kernel_rfl⟩

theorem liftedUptoD (os : Os) (started : os.Started) (H : Type) (enc : TypeId × Value → H) (F : Stop.Interp) :
    ReturnsInHanded {} Tryz.checked os 4 .any ((Rows.OpenSpec.upto Rows.decodesSpec).preRow enc Tryz.prog Tryz.f4 Rows.decodesUptoRow.domain false Rows.decodesUptoRow.laid) (((Rows.OpenSpec.upto Rows.decodesSpec).at F).post enc Tryz.prog Tryz.f4 false true false false) := by
  obtain ⟨places, hx⟩ := readsD os enc
  refine returnsInHanded_of_row (C := Tryz.checked) (s := Rows.OpenSpec.upto Rows.decodesSpec) ownD started (by kernel_rfl) Tryz.func4
    (witness_row_at (enc := enc) (C := Tryz.checked) false (World.laidAll Tryz.prog os Rows.decodesUptoRow.laid) #[.slice none 0 0] (World.laidAll_os _ _ _) (by kernel_rfl) (by kernel_rfl) (by kernel_rfl)
      (OpenSpec.preRow_of_cond 8 hx (by kernel_rfl) (fun k hk => by cases hk; kernel_rfl) (by kernel_rfl) (laid_metD os))) ?_
  intro W base args ds gs before hval hW _ hcond _ _ _ _
  exact contractD H enc W base args ds gs before hval hW (hcond _ rfl)

/-- The row, of one who is alone. -/
def row0K2 : OpenClaim := { Rows.decodesUptoRow with leaving := false }
theorem fa4_wf : row0K2.wf (OpenSpec.ofChange (Rows.OpenSpec.upto Rows.decodesSpec).bare) = true := by kernel_rfl
theorem fa4_tie : namedTie Tryz.prog row0K2.named (Rows.OpenSpec.upto Rows.decodesSpec).bare.vars = true := by kernel_rfl
theorem fa4_place : (row0K2.inPlace == Tryz.prog.inPlace 4) = true := by kernel_rfl
theorem fa4_unf : (row0K2.unfollowed == Tryz.prog.unfollowed 4) = true := by kernel_rfl
theorem fa4_rec : (row0K2.recurses == Tryz.prog.recurses 4) = true := by kernel_rfl
theorem fa4_named : (row0K2.named == Tryz.prog.varsNamed 4) = true := by kernel_rfl
theorem factsK2 : joinedFacts Tryz.prog 4 Tryz.f4 (Rows.OpenSpec.upto Rows.decodesSpec).bare row0K2 = true :=
  and_of (and_of (and_of (and_of (and_of (and_of (and_of (and_of (and_of (and_of (and_of (and_of (and_of (and_of (and_of (and_of (and_of (and_of (and_of (and_of (and_of (and_of (and_of (and_of (and_of (and_of (and_of (and_of (and_of (and_of (and_of fa4_wf fa_laid) fa_maps) (by kernel_rfl)) fa4_tie) rfl) fa_stops) rfl) fa_knobs) fa4_place) fa4_unf) fa4_rec) fa4_named) (by kernel_rfl)) (by kernel_rfl)) (by kernel_rfl)) (by kernel_rfl)) (by kernel_rfl)) (by kernel_rfl)) (by kernel_rfl)) (by kernel_rfl)) (by kernel_rfl)) fa_keys) rfl) fa_heard) fa_enter) (fa_lifts _ rfl)) (fa_make _ rfl)) (by kernel_rfl)) (by kernel_rfl)) (by kernel_rfl)) (by kernel_rfl)
theorem said0K2 : row0K2.holds Tryz.pinned (Rows.OpenSpec.upto Rows.decodesSpec) :=
  OpenClaim.holds_of_cond 4 Tryz.f4 rfl rfl rfl rfl rfl rfl rfl ⟨rfl, rfl, rfl, rfl, rfl⟩ rfl rfl rfl rfl rfl (by kernel_rfl) Tryz.func4 factsK2
    (of_decide_eq_true (by kernel_rfl)) (by unfold Func.isWrapper; first | (rw [if_pos (by decide +kernel)]; kernel_rfl) | (rw [if_neg (by decide +kernel)]; exact ⟨rfl, rfl⟩))
    (fun os started H enc _ F => by rw [OpenClaim.pre_eq_preRow]; exact liftedUptoD os started H enc F)
theorem saidUptoD : Rows.DecodesUptoSaid := holds_leaving (c := row0K2) (by kernel_rfl) rfl rfl rfl said0K2

theorem plainD (f : FuncId) (fn : Func) (hf : Tryz.pinned.checked.prog.funcNamed "signpost/signpostlaw.Decodes" = some f) (hfn : Tryz.pinned.checked.prog.funcs[f]? = some fn) :
    false = Tryz.pinned.checked.prog.looks [] ∧ ∀ (j : Nat) t, fn.params[j]? = some t → Tryz.pinned.checked.prog.wantsStandIn t = false := by
  obtain rfl : f = 4 := Option.some.inj ((show Tryz.prog.funcNamed "signpost/signpostlaw.Decodes" = some 4 by kernel_rfl).symm.trans hf) |>.symm
  obtain rfl : fn = Tryz.f4 := (Option.some.inj (Tryz.func4.symm.trans hfn)).symm
  refine ⟨by kernel_rfl, fun j t ht => ?_⟩
  rw [Tryz.params4] at ht
  obtain rfl : t = 22 := by simpa using Array.mem_of_getElem? ht
  exact (show Tryz.prog.wantsStandIn 22 = false by kernel_rfl)

theorem decodes_upto_card : Rows.DecodesUptoCardSaid :=
  card_goes .later _ _ _ _ saidUptoD (by kernel_rfl) decodesUpto_row_tie rfl ⟨rfl, rfl⟩ (by kernel_rfl) rfl plainD (by kernel_rfl)
#print axioms decodes_upto_card
end Go.Proofs.YtefdokkadckbbaaGreatDoor
