/- A call that starts no goroutine, told by a row that lets goroutines leave; the tied card of such a row. -/
import Derived.JoinedCond
import Derived.SevenTiedAt
import Derived.Leaving
namespace Go.Proofs.YtefdokkadckbbaaGreatDoor

/-- Whoever is alone leaves nobody who does more than leave. -/
theorem leaving_of_alone {a : Assume} {stops : Option Stop.Interp} {C : Checked} {os : Os} {f : FuncId} {r : Reach} {okInput : Program → World → Reach → Nat → FuncId → Input → Prop}
    {Pre : World → Array Value → Prop} {Post : World → Array Value → Value → World → Prop} {always : Machine → Prop}
    (h : ReturnsInOpen a stops C os f r okInput Pre Post (aloneAtReturn C.prog) always) : ReturnsInOpen a stops C os f r okInput Pre Post (leavingAtReturn C.prog) always := by
  obtain ⟨g0, g1, g2, g3, all⟩ := h
  refine ⟨g0, g1, g2, g3, fun w tape i hf => ?_⟩
  obtain ⟨n, v, w', hn, hc, hr, hp, ⟨j, last, hj, hs, hq, hh, he⟩, ha⟩ := all w tape i hf
  exact ⟨n, v, w', hn, hc, hr, hp, ⟨j, last, hj, hs, hh, onlyLeaving_of_quiet hq, he⟩, ha⟩

theorem holds_leaving {p : Pinned} {s : OpenSpec} {c : OpenClaim} (hw : ({ c with leaving := true } : OpenClaim).wf s = true) (hs : c.start = .entering) (hst : c.stops = []) (hl : c.leaving = false) (h : c.holds p s) : ({ c with leaving := true } : OpenClaim).holds p s := by
  obtain ⟨_, a2, a3, a4, a5, a6, a7, a8, f, fn, g1, g2, r, b1, b2, b3, b4, b5, k, c1, c2, c3, c4, c5, c6, m, l, q, n1, v1, e1, L, hL, all⟩ := h
  refine ⟨hw, a2, a3, a4, a5, a6, a7, a8, f, fn, g1, g2, r, b1, b2, b3, b4, b5, k, c1, c2, c3, c4, c5, c6, m, l, q, n1, v1, e1, L, hL, fun os st hq H enc inj => ?_⟩
  have := all os st hq H enc inj
  unfold OpenClaim.form at this ⊢
  simp only [hs, hst] at this ⊢
  intro F
  have h1 := this F
  unfold OpenClaim.atReturn at h1 ⊢
  simp only [hl] at h1
  exact leaving_of_alone h1

/-- The tied card of a row whose program has go statements. -/
theorem card_goes (Lk : Looks) {p : Pinned} {s : OpenSpec} {c : OpenClaim} (kinds : List LaidKind) (tests : Bool) (har : Bool × String) (lk : Bool)
    (hc : c.holds p s) (hw : c.wfByText s = true) (htie : c.laidByTextAt Lk p kinds tests)
    (hst : c.start = .entering) (hnb : c.noBlocks = false ∧ c.again = false) (hm : p.checked.prog.mainIs = some (har.1, har.2.toList)) (hn : (!har.1 && har.2.isEmpty && !lk) = false)
    (hl : ∀ f fn, p.checked.prog.funcNamed c.func = some f → p.checked.prog.funcs[f]? = some fn → lk = p.checked.prog.looks [] ∧ ∀ (j : Nat) t, fn.params[j]? = some t → p.checked.prog.wantsStandIn t = false)
    (hg : true = c.goesBy p.checked.prog) :
    Claim7.holds p (.plain s) { stood := { row := c, standIns := [], harness := har, looks := lk }, kinds := [], alts := [], goes := true, laidByText := true, laidKinds := kinds, laidTests := tests, laidLooks := Lk } := by
  have h6 : Claim7.isSixth { stood := { row := c, standIns := [], harness := har, looks := lk }, kinds := [] } = false := by simpa [Claim7.isSixth] using hn
  refine ⟨Claim7.tied_new_at Lk kinds tests (Claim7.new_of_sixth hc har lk hst hnb hm h6 hl) hw, (fun D hD => by cases hD), htie, (fun h => by cases h), hg⟩
end Go.Proofs.YtefdokkadckbbaaGreatDoor
