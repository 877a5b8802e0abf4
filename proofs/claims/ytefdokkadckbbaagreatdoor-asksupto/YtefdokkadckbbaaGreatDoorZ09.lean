/- Lv Fa Rr -/
import Derived.JoinedCond
import Derived.SevenTiedAt
import Derived.Leaving
import Derived.Test.YtefdokkadckbbaaGreatDoorCards
import Derived.Test.YtefdokkadckbbaaGreatDoorTie
import Derived.OpenShut
import Derived.LaidMore
import Derived.Lay
import Derived.Stop.Joined
import Derived.Deep.DeepHandedRow
import Derived.Shelf.Vars
section
namespace Go.Proofs.YtefdokkadckbbaaGreatDoor
theorem leaving_of_alone {a : Assume} {stops : Option Stop.Interp} {C : Checked} {os : Os} {f : FuncId} {r : Reach} {okInput : Program → World → Reach → Nat → FuncId → Input → Prop}
  {Pre : World → Array Value → Prop} {Post : World → Array Value → Value → World → Prop} {always : Machine → Prop}
  (h : ReturnsInOpen a stops C os f r okInput Pre Post (aloneAtReturn C.prog) always) : ReturnsInOpen a stops C os f r okInput Pre Post (leavingAtReturn C.prog) always := by
 obtain ⟨g0, g1, g2, g3, all⟩ := h
 refine ⟨g0, g1, g2, g3, fun w tape i hf => ?_⟩
 obtain ⟨n, v, w', hn, hc, hr, hp, ⟨j, last, hj, hs, hq, hh, he⟩, ha⟩ := all w tape i hf
 exact ⟨n, v, w', hn, hc, hr, hp, ⟨j, last, hj, hs, hh, onlyLeaving_of_quiet hq, he⟩, ha⟩
theorem holds_leaving {p : Pinned} {s : OpenSpec} {c : OpenClaim} (hw : ({ c with leaving := true } : OpenClaim).wf s = true) (hs : c.start = .entering) (hst : c.stops = []) (hl : c.leaving = false) (h : c.holds p s) : ({ c with leaving := true } : OpenClaim).holds p s := by
 obtain ⟨_, a2, a3, a4, a5, a6, a7, a8, f, fn, g1, g2, r, b1, b2, b3, b4, b5, k, c1, c2, c3, c4, c5, c6, m, l, q, n1, v1, e1, L, hL, all⟩ := h
 refine ⟨hw, a2, a3, a4, a5, a6, a7, a8, f, fn, g1, g2, r, b1, b2, b3, b4, b5, k, c1, c2, c3, c4, c5, c6, m, l, q, n1, v1, e1, L, hL, fun os st hq H enc inj => ?_⟩
 have := all os st hq H enc inj
 unfold OpenClaim.form at this ⊢
 simp only [hs, hst] at this ⊢
 intro F
 have h1 := this F
 unfold OpenClaim.atReturn at h1 ⊢
 simp only [hl] at h1
 exact leaving_of_alone h1
theorem card_goes (Lk : Looks) {p : Pinned} {s : OpenSpec} {c : OpenClaim} (kinds : List LaidKind) (tests : Bool) (har : Bool × String) (lk : Bool)
  (hc : c.holds p s) (hw : c.wfByText s = true) (htie : c.laidByTextAt Lk p kinds tests)
  (hst : c.start = .entering) (hnb : c.noBlocks = false ∧ c.again = false) (hm : p.checked.prog.mainIs = some (har.1, har.2.toList)) (hn : (!har.1 && har.2.isEmpty && !lk) = false)
  (hl : ∀ f fn, p.checked.prog.funcNamed c.func = some f → p.checked.prog.funcs[f]? = some fn → lk = p.checked.prog.looks [] ∧ ∀ (j : Nat) t, fn.params[j]? = some t → p.checked.prog.wantsStandIn t = false)
  (hg : true = c.goesBy p.checked.prog) :
  Claim7.holds p (.plain s) { stood := { row := c, standIns := [], harness := har, looks := lk }, kinds := [], alts := [], goes := true, laidByText := true, laidKinds := kinds, laidTests := tests, laidLooks := Lk } := by
 have h6 : Claim7.isSixth { stood := { row := c, standIns := [], harness := har, looks := lk }, kinds := [] } = false := by simpa [Claim7.isSixth] using hn
 refine ⟨Claim7.tied_new_at Lk kinds tests (Claim7.new_of_sixth hc har lk hst hnb hm h6 hl) hw, (fun D hD => by cases hD), htie, (fun h => by cases h), hg⟩
end Go.Proofs.YtefdokkadckbbaaGreatDoor
end
section
namespace Go.Proofs.YtefdokkadckbbaaGreatDoor
set_option maxRecDepth 100000
theorem and_of {a b : Bool} (ha : a = true) (hb : b = true) : (a && b) = true := by rw [ha, hb]; rfl
theorem fa_laid : laidOutB Tryz.prog = true := by kernel_rfl
theorem fa_maps : mapsRowed Tryz.prog = true := by kernel_rfl
theorem fa_heard : Tryz.prog.stopsHeard = true := by kernel_rfl
theorem fa_keys : (false == Tryz.prog.plainKeys) = true := by kernel_rfl
theorem fa_stops : (Tryz.prog.stops == []) = true := by kernel_rfl
theorem fa_knobs : (Tryz.prog.stopKnobs == []) = true := by kernel_rfl
theorem fa_enter : Tryz.prog.mayEnter = true := by kernel_rfl
theorem fa_lifts (c : OpenClaim) (h : c.lifted = Rows.encodesUptoRow.lifted) : (c.lifted == Tryz.prog.liftsFinal) = true := by rw [h]; kernel_rfl
theorem fa_make (c : OpenClaim) (h : c.make = Rows.encodesUptoRow.make) : (Tryz.prog.make == some c.make) = true := by rw [h]; kernel_rfl
end Go.Proofs.YtefdokkadckbbaaGreatDoor
end
section
namespace Go.Proofs.YtefdokkadckbbaaGreatDoor
open Go.RowKit Go.ChangeShapes Go.WideShapes Go.ChangeAt
set_option maxRecDepth 100000
theorem ownQ : ownKnob Tryz.prog.godebug = none := by kernel_rfl
def ContractQ : Prop := ∀ (H : Type) (enc : TypeId × Value → H) (W : World) (base : Nat) (args : Array Value) (ds gs : List (DataW H)) (before : List MemPlace),
  (∀ (j : Nat) t v, Tryz.f5.params[j]? = some t → args[j]? = some v → Value.okWide Tryz.prog W .any base t v) →
  DataW.Whole enc Tryz.prog Tryz.f5.params.toList Rows.asksSpec.vars false W args.toList ds gs before → Rows.uptoSmall H (ds ++ gs) = true → W.ShapedOpen Tryz.prog → Calls Tryz.prog 5 args W fun e W' => ∃ v, e = .returned v ∧ Rows.asksSpec.post enc Tryz.prog Tryz.f5 false true false false W args v W'
theorem laid_metQ (os : Os) : laidMet Tryz.prog Rows.asksUptoRow.laid ((World.laidAll Tryz.prog os Rows.asksUptoRow.laid).forCall (fun _ _ => 0) ⟨#[], #[.slice none 0 0], []⟩).memory :=
 laidMet_of_run' 8 (by kernel_rfl) (by kernel_rfl)
theorem readsQ (os : Os) {H : Type} (enc : TypeId × Value → H) : ∃ places, DataW.whole enc Tryz.prog ((World.laidAll Tryz.prog os Rows.asksUptoRow.laid).forCall (fun _ _ => 0) ⟨#[], #[.slice none 0 0], []⟩).memory Tryz.f5.params.toList Rows.asksSpec.vars false #[Value.slice none 0 0].toList 8 = some ([.nil], [], places) :=
 ⟨[], by kernel_rfl⟩
theorem liftedUptoQ (hC : ContractQ) (os : Os) (started : os.Started) (H : Type) (enc : TypeId × Value → H) (F : Stop.Interp) :
  ReturnsInHanded {} Tryz.checked os 5 .any ((Rows.OpenSpec.upto Rows.asksSpec).preRow enc Tryz.prog Tryz.f5 Rows.asksUptoRow.domain false Rows.asksUptoRow.laid) (((Rows.OpenSpec.upto Rows.asksSpec).at F).post enc Tryz.prog Tryz.f5 false true false false) := by
 obtain ⟨places, hx⟩ := readsQ os enc
 refine returnsInHanded_of_row (C := Tryz.checked) (s := Rows.OpenSpec.upto Rows.asksSpec) ownQ started (by kernel_rfl) Tryz.func5
  (witness_row_at (enc := enc) (C := Tryz.checked) false (World.laidAll Tryz.prog os Rows.asksUptoRow.laid) #[.slice none 0 0] (World.laidAll_os _ _ _) (by kernel_rfl) (by kernel_rfl) (by kernel_rfl)
   (OpenSpec.preRow_of_cond 8 hx (by kernel_rfl) (fun k hk => by cases hk; kernel_rfl) (by kernel_rfl) (laid_metQ os))) ?_
 intro W base args ds gs before hval hW _ hcond _ _ hsh _
 exact hC H enc W base args ds gs before hval hW (hcond _ rfl) hsh
def row0Rq : OpenClaim := { Rows.asksUptoRow with leaving := false }
theorem fa5_wf : row0Rq.wf (OpenSpec.ofChange (Rows.OpenSpec.upto Rows.asksSpec).bare) = true := by kernel_rfl
theorem fa5_tie : namedTie Tryz.prog row0Rq.named (Rows.OpenSpec.upto Rows.asksSpec).bare.vars = true := by kernel_rfl
theorem fa5_place : (row0Rq.inPlace == Tryz.prog.inPlace 5) = true := by kernel_rfl
theorem fa5_unf : (row0Rq.unfollowed == Tryz.prog.unfollowed 5) = true := by kernel_rfl
theorem fa5_rec : (row0Rq.recurses == Tryz.prog.recurses 5) = true := by kernel_rfl
theorem fa5_named : (row0Rq.named == Tryz.prog.varsNamed 5) = true := by kernel_rfl
theorem factsRq : joinedFacts Tryz.prog 5 Tryz.f5 (Rows.OpenSpec.upto Rows.asksSpec).bare row0Rq = true :=
 and_of (and_of (and_of (and_of (and_of (and_of (and_of (and_of (and_of (and_of (and_of (and_of (and_of (and_of (and_of (and_of (and_of (and_of (and_of (and_of (and_of (and_of (and_of (and_of (and_of (and_of (and_of (and_of (and_of (and_of (and_of fa5_wf fa_laid) fa_maps) (by kernel_rfl)) fa5_tie) rfl) fa_stops) rfl) fa_knobs) fa5_place) fa5_unf) fa5_rec) fa5_named) (by kernel_rfl)) (by kernel_rfl)) (by kernel_rfl)) (by kernel_rfl)) (by kernel_rfl)) (by kernel_rfl)) (by kernel_rfl)) (by kernel_rfl)) (by kernel_rfl)) fa_keys) rfl) fa_heard) fa_enter) (fa_lifts _ rfl)) (fa_make _ rfl)) (by kernel_rfl)) (by kernel_rfl)) (by kernel_rfl)) (by kernel_rfl)
theorem said0Rq (hC : ContractQ) : row0Rq.holds Tryz.pinned (Rows.OpenSpec.upto Rows.asksSpec) :=
 OpenClaim.holds_of_cond 5 Tryz.f5 rfl rfl rfl rfl rfl rfl rfl ⟨rfl, rfl, rfl, rfl, rfl⟩ rfl rfl rfl rfl rfl (by kernel_rfl) Tryz.func5 factsRq
  (of_decide_eq_true (by kernel_rfl)) (by unfold Func.isWrapper; first | (rw [if_pos (by decide +kernel)]; kernel_rfl) | (rw [if_neg (by decide +kernel)]; exact ⟨rfl, rfl⟩))
  (fun os started H enc _ F => by rw [OpenClaim.pre_eq_preRow]; exact liftedUptoQ hC os started H enc F)
theorem saidUptoQ (hC : ContractQ) : Rows.AsksUptoSaid := holds_leaving (c := row0Rq) (by kernel_rfl) rfl rfl rfl (said0Rq hC)
theorem plainQ (f : FuncId) (fn : Func) (hf : Tryz.pinned.checked.prog.funcNamed "signpost/signpostlaw.Asks" = some f) (hfn : Tryz.pinned.checked.prog.funcs[f]? = some fn) :
  false = Tryz.pinned.checked.prog.looks [] ∧ ∀ (j : Nat) t, fn.params[j]? = some t → Tryz.pinned.checked.prog.wantsStandIn t = false := by
 obtain rfl : f = 5 := Option.some.inj ((show Tryz.prog.funcNamed "signpost/signpostlaw.Asks" = some 5 by kernel_rfl).symm.trans hf) |>.symm
 obtain rfl : fn = Tryz.f5 := (Option.some.inj (Tryz.func5.symm.trans hfn)).symm
 refine ⟨by kernel_rfl, fun j t ht => ?_⟩
 rw [Tryz.params5] at ht
 obtain rfl : t = 22 := by simpa using Array.mem_of_getElem? ht
 exact (show Tryz.prog.wantsStandIn 22 = false by kernel_rfl)
theorem asks_upto_of (hC : ContractQ) : Rows.AsksUptoCardSaid :=
 card_goes .later _ _ _ _ (saidUptoQ hC) (by kernel_rfl) asksUpto_row_tie rfl ⟨rfl, rfl⟩ (by kernel_rfl) rfl plainQ (by kernel_rfl)
end Go.Proofs.YtefdokkadckbbaaGreatDoor
end
