/- 'Encodes': for every script whose reading is of bulk at most 1048576 the call returns true, and the script reads as it did (conditions: the two tables of unicode/utf8 lie as the program's text lays them). -/
import Derived.Test.YtefdokkadckbbaaGreatDoorCards
import Derived.Test.YtefdokkadckbbaaGreatDoorTie
import Derived.Test.YtefdokkadckbbaaGreatDoorF2
import Derived.Test.YtefdokkadckbbaaGreatDoorFa
import Derived.OpenShut
import Derived.LaidMore
import Derived.Lay
import Derived.SevenTiedAt
import Derived.Stop.Joined
import Derived.Deep.DeepHandedRow
import Derived.Shelf.Vars
namespace Go.Proofs.YtefdokkadckbbaaGreatDoor
open Go.ChangeShapes Go.WideShapes Go.ChangeAt Go.RowKit
set_option maxRecDepth 100000

theorem own : ownKnob Tryz.prog.godebug = none := by kernel_rfl
theorem laidOut : laidOutB Tryz.prog = true := by kernel_rfl

/-- The library's variable MaxLen is laid in every world of the right shape. -/
theorem good_of_shape {W : World} (h : W.ShapedOpen Tryz.prog) : Good W := by
  obtain ⟨m, hm⟩ := cell_of_shapedOpen_int (g := 0) (t := 3) (zero := #[.int .i64 0]) (k := .i64) h (of_decide_eq_true (by kernel_rfl)) (by kernel_rfl) rfl (by kernel_rfl) (by kernel_rfl) Tryz.underlying3
  refine ⟨?_, m, hm⟩
  unfold World.cell? at hm
  cases hh : W.heap[0]? with
  | none => simp [hh] at hm
  | some o => exact (Array.getElem?_eq_some_iff.1 hh).1

theorem bound {H : Type} {l : List (DataW H)} (hk : Rows.uptoSmall H l = true) : Rows.uptoBulkAll l ≤ 1048576 := of_decide_eq_true hk

theorem contract (H : Type) (enc : TypeId × Value → H) (W : World) (base : Nat) (args : Array Value) (ds gs : List (DataW H)) (before : List MemPlace)
    (hval0 : ∀ (j : Nat) t v, Tryz.f3.params[j]? = some t → args[j]? = some v → Value.okWide Tryz.prog W .any base t v)
    (hW : DataW.Whole enc Tryz.prog Tryz.f3.params.toList Rows.encodesSpec.vars false W args.toList ds gs before) (hk : Rows.uptoSmall H (ds ++ gs) = true) (hsh : W.ShapedOpen Tryz.prog) :
    Calls Tryz.prog 3 args W fun e W' => ∃ v, e = .returned v ∧ Rows.encodesSpec.post enc Tryz.prog Tryz.f3 false true false false W args v W' := by
  have hval := hval0
  have hW' := hW
  obtain ⟨p, q, hA0, hV, rfl, hfz, hnd⟩ := hW
  have hA : DataW.TrodAll enc Tryz.prog W 0 (fun _ => true) true Tryz.f3.params.toList args.toList ds p := hA0
  rw [Tryz.params3] at hA hval
  obtain ⟨v0, d0, rfl, rfl, h0⟩ := trodAll_one hA
  obtain ⟨rfl, rfl⟩ := trodVars_none hV
  clear hA0
  obtain ⟨a0, n0, c0, rfl⟩ := okWide_slice Tryz.underlying22 (hval 0 22 v0 rfl rfl)
  have hbk := bound hk
  simp only [List.append_nil, Rows.uptoBulkAll, Nat.add_zero] at hbk
  have h0k := h0
  obtain ⟨fuel, hf⟩ := h0
  obtain ⟨a, c, ps, hv, hN, hps⟩ := script_read (w := W) (x := (d0, p)) hf hbk
  rw [hv]
  rw [hv] at hW' h0k
  have hG := good_of_shape hsh
  refine (Encodes_any a c ps W hG hN hps).mono fun e W' ⟨he, hb⟩ => ?_
  subst he
  have hlt : ∀ x ∈ p, x.block < W.heap.size := fun x hx => by simpa using hW'.lt x (by simpa using hx)
  simp only [List.append_nil] at hW'
  refine ⟨_, rfl, _, _, _, [], p, [], hW', ?_, ?_, rfl, hb.frame _, fun h => by cases h⟩
  · exact trodAll_mk1 (shut_bool Tryz.underlying4 _)
  · exact trodAll_mk1 (Below.trod laidOut (by kernel_rfl) (of_decide_eq_true (by kernel_rfl)) h0k hb hlt)

/-- The witness: nothing is asked, in a world in which the two tables lie. -/
theorem laid_met (os : Os) : laidMet Tryz.prog Rows.encodesUptoRow.laid ((World.laidAll Tryz.prog os Rows.encodesUptoRow.laid).forCall (fun _ _ => 0) ⟨#[], #[.slice none 0 0], []⟩).memory :=
  laidMet_of_run' 8 (by kernel_rfl) (by kernel_rfl)
theorem reads (os : Os) {H : Type} (enc : TypeId × Value → H) : ∃ places, DataW.whole enc Tryz.prog ((World.laidAll Tryz.prog os Rows.encodesUptoRow.laid).forCall (fun _ _ => 0) ⟨#[], #[.slice none 0 0], []⟩).memory Tryz.f3.params.toList Rows.encodesSpec.vars false #[Value.slice none 0 0].toList 8 = some ([.nil], [], places) :=
  ⟨[], by kernel_rfl⟩

theorem liftedUpto (os : Os) (started : os.Started) (H : Type) (enc : TypeId × Value → H) (F : Stop.Interp) :
    ReturnsInHanded {} Tryz.checked os 3 .any ((Rows.OpenSpec.upto Rows.encodesSpec).preRow enc Tryz.prog Tryz.f3 Rows.encodesUptoRow.domain false Rows.encodesUptoRow.laid) (((Rows.OpenSpec.upto Rows.encodesSpec).at F).post enc Tryz.prog Tryz.f3 false true false false) := by
  obtain ⟨places, hx⟩ := reads os enc
  refine returnsInHanded_of_row (C := Tryz.checked) (s := Rows.OpenSpec.upto Rows.encodesSpec) own started (by kernel_rfl) Tryz.func3
    (witness_row_at (enc := enc) (C := Tryz.checked) false (World.laidAll Tryz.prog os Rows.encodesUptoRow.laid) #[.slice none 0 0] (World.laidAll_os _ _ _) (by kernel_rfl) (by kernel_rfl) (by kernel_rfl)
      (OpenSpec.preRow_of_cond 8 hx (by kernel_rfl) (fun k hk => by cases hk; kernel_rfl) (by kernel_rfl) (laid_met os))) ?_
  intro W base args ds gs before hval hW _ hcond _ _ hsh _
  exact contract H enc W base args ds gs before hval hW (hcond _ rfl) hsh

/-- The row, of one who is alone. -/
def row0G1 : OpenClaim := { Rows.encodesUptoRow with leaving := false }
theorem fa3_wf : row0G1.wf (OpenSpec.ofChange (Rows.OpenSpec.upto Rows.encodesSpec).bare) = true := by kernel_rfl
theorem fa3_tie : namedTie Tryz.prog row0G1.named (Rows.OpenSpec.upto Rows.encodesSpec).bare.vars = true := by kernel_rfl
theorem fa3_place : (row0G1.inPlace == Tryz.prog.inPlace 3) = true := by kernel_rfl
theorem fa3_unf : (row0G1.unfollowed == Tryz.prog.unfollowed 3) = true := by kernel_rfl
theorem fa3_rec : (row0G1.recurses == Tryz.prog.recurses 3) = true := by kernel_rfl
theorem fa3_named : (row0G1.named == Tryz.prog.varsNamed 3) = true := by kernel_rfl
theorem factsG1 : joinedFacts Tryz.prog 3 Tryz.f3 (Rows.OpenSpec.upto Rows.encodesSpec).bare row0G1 = true :=
  and_of (and_of (and_of (and_of (and_of (and_of (and_of (and_of (and_of (and_of (and_of (and_of (and_of (and_of (and_of (and_of (and_of (and_of (and_of (and_of (and_of (and_of (and_of (and_of (and_of (and_of (and_of (and_of (and_of (and_of (and_of fa3_wf fa_laid) fa_maps) (by kernel_rfl)) fa3_tie) rfl) fa_stops) rfl) fa_knobs) fa3_place) fa3_unf) fa3_rec) fa3_named) (by kernel_rfl)) (by kernel_rfl)) (by kernel_rfl)) (by kernel_rfl)) (by kernel_rfl)) (by kernel_rfl)) (by kernel_rfl)) (by kernel_rfl)) (by kernel_rfl)) fa_keys) rfl) fa_heard) fa_enter) (fa_lifts _ rfl)) (fa_make _ rfl)) (by kernel_rfl)) (by kernel_rfl)) (by kernel_rfl)) (by kernel_rfl)
theorem said0G1 : row0G1.holds Tryz.pinned (Rows.OpenSpec.upto Rows.encodesSpec) :=
  OpenClaim.holds_of_cond 3 Tryz.f3 rfl rfl rfl rfl rfl rfl rfl ⟨rfl, rfl, rfl, rfl, rfl⟩ rfl rfl rfl rfl rfl (by kernel_rfl) Tryz.func3 factsG1
    (of_decide_eq_true (by kernel_rfl)) (by unfold Func.isWrapper; first | (rw [if_pos (by decide +kernel)]; kernel_rfl) | (rw [if_neg (by decide +kernel)]; exact ⟨rfl, rfl⟩))
    (fun os started H enc _ F => by rw [OpenClaim.pre_eq_preRow]; exact liftedUpto os started H enc F)
theorem saidUpto : Rows.EncodesUptoSaid := holds_leaving (c := row0G1) (by kernel_rfl) rfl rfl rfl said0G1

theorem plain (f : FuncId) (fn : Func) (hf : Tryz.pinned.checked.prog.funcNamed "signpost/signpostlaw.Encodes" = some f) (hfn : Tryz.pinned.checked.prog.funcs[f]? = some fn) :
    false = Tryz.pinned.checked.prog.looks [] ∧ ∀ (j : Nat) t, fn.params[j]? = some t → Tryz.pinned.checked.prog.wantsStandIn t = false := by
  obtain rfl : f = 3 := Option.some.inj ((show Tryz.prog.funcNamed "signpost/signpostlaw.Encodes" = some 3 by kernel_rfl).symm.trans hf) |>.symm
  obtain rfl : fn = Tryz.f3 := (Option.some.inj (Tryz.func3.symm.trans hfn)).symm
  refine ⟨by kernel_rfl, fun j t ht => ?_⟩
  rw [Tryz.params3] at ht
  obtain rfl : t = 22 := by simpa using Array.mem_of_getElem? ht
  exact (show Tryz.prog.wantsStandIn 22 = false by kernel_rfl)

theorem encodes_upto_card : Rows.EncodesUptoCardSaid :=
  card_goes .later _ _ _ _ saidUpto (by kernel_rfl) encodesUpto_row_tie rfl ⟨rfl, rfl⟩ (by kernel_rfl) rfl plain (by kernel_rfl)
#print axioms encodes_upto_card
end Go.Proofs.YtefdokkadckbbaaGreatDoor
