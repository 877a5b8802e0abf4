/- sameRecords, stillRecords. -/
import Derived.Test.YtefdokkadckbbaaGreatDoorD2
import Derived.Deep.QuietTactic
import Derived.BigQuiet
namespace Go.Proofs.YtefdokkadckbbaaGreatDoor
open Go.RowKit
set_option maxRecDepth 100000

set_option maxHeartbeats 1000000 in
theorem same_any (va vb : Value) (rs : List Rec) (w : World) (hN : rs.length ≤ 1048576) (ha : RecSl w va rs) (hb : RecSl w vb rs) :
    Calls Tryz.prog 87 #[va, vb] w fun e w' => e = .returned (.bool true) ∧ ∃ n, w' = w.drewN n := by
  obtain ⟨a, c, rfl, hca⟩ := ha.any
  obtain ⟨b, d, rfl, hcb⟩ := hb.any
  have HA : Hid (∀ (j : Nat) (x : Rec), rs[j]? = some x → ∃ g o, a = some ⟨g, o, none⟩ ∧ g < w.heap.size ∧ RecAt w g (o + j * 5) x) := hca
  have HB : Hid (∀ (j : Nat) (x : Rec), rs[j]? = some x → ∃ g o, b = some ⟨g, o, none⟩ ∧ g < w.heap.size ∧ RecAt w g (o + j * 5) x) := hcb
  clear hca hcb ha hb
  go_enter Tryz.func87, Tryz.ntmps87
  go_wp2
  go_loopw [5] (fun i wr => ∃ k n : Nat, k ≤ rs.length ∧ i = .int .i64 k ∧ wr = w.drewN n) (fun i _ => rs.length - (intOf i).toNat)
  case atStart => exact ⟨0, 0, Nat.zero_le _, rfl, rfl⟩
  case round =>
    obtain ⟨k, n, hk, rfl, rfl⟩ := hrel
    by_cases hlt : k < rs.length
    · obtain ⟨x, hx⟩ := rec_at hlt
      obtain ⟨g, o, rfl, hg, c0, c1, c2, c3, c4⟩ := HA.out k x hx
      obtain ⟨g', o', rfl, hg', d0, d1, d2, d3, d4⟩ := HB.out k x hx
      clear hx
      go_wp2
      go_quiet (fail)
      go_wp2
      go_roundw
      case rel => exact ⟨k + 1, n + nq, hlt, by go_num, rfl⟩
      case measure => simp [intOf]; omega
    · go_wp2
      go_ret
      exact ⟨rfl, n, rfl⟩

set_option maxHeartbeats 1000000 in
theorem still_nil (v : Value) (w : World) : Calls Tryz.prog 125 #[v, .slice none 0 0] w fun e w' => e = .returned (.bool true) ∧ Below w.heap.size w w' := by
  have hq := fun w => Lib.run_eql_slice_nil (P := Tryz.prog) w 25 71 none 0 0 0 0 u39
  go_enter Tryz.func125, Tryz.ntmps125
  go_wp2
  go_ret
  exact ⟨rfl, Below.refl _ _⟩

set_option maxHeartbeats 1000000 in
theorem still_some (v : Value) (ad : Addr) (c : Nat) (rs : List Rec) (w : World) (hN : rs.length ≤ 1048576) (hl : Lent w v rs) (hr : RecSl w (.slice (some ad) rs.length c) rs) :
    Calls Tryz.prog 125 #[v, .slice (some ad) rs.length c] w fun e w' => e = .returned (.bool true) ∧ Below w.heap.size w w' := by
  have hlr := hl.recs
  obtain ⟨g, rfl, hg, hrec⟩ := hl
  have hq := fun w => Lib.run_eql_slice_nil (P := Tryz.prog) w 25 71 (some ad) rs.length c 0 0 u39
  obtain ⟨a0, a1, a2, a3, a4⟩ := hrec rs.length (mark (-7)) (by simp)
  obtain ⟨b0, b1, b2, b3, b4⟩ := hrec (rs.length + 1) (mark (-8)) (by rw [List.getElem?_append_right (by omega)]; simp)
  simp only [mark, Nat.zero_add] at a0 a1 a2 a3 a4 b0 b1 b2 b3 b4
  clear hrec
  go_enter Tryz.func125, Tryz.ntmps125
  go_wp2_with fail
  refine (same_any _ _ rs _ hN hlr hr).mono ?_
  rintro e w' ⟨rfl, n, rfl⟩
  go_wp2
  go_ret
  exact ⟨rfl, below_drewN (Below.refl _ _) n⟩
/-- What lentRecords hands out of a list: nil of nil; else the records with two marks behind them, from block 'base' on. -/
def Lnt (base : Nat) (W : World) (a a' : Option Addr) (c' : Nat) (rs : List Rec) : Prop :=
  (a = none ∧ a' = none ∧ c' = 0 ∧ rs = []) ∨ ((∃ ad, a = some ad) ∧ ∃ g, a' = some ⟨g, 0, none⟩ ∧ c' = rs.length + 2 ∧ base ≤ g ∧ g < W.heap.size ∧ ∀ j r, (rs ++ [mark (-7), mark (-8)])[j]? = some r → RecAt W g (0 + j * 5) r)
theorem Lnt.below {base : Nat} {W W' : World} {a a' : Option Addr} {c' : Nat} {rs : List Rec} (h : Lnt base W a a' c' rs) (hb : Below W.heap.size W W') : Lnt base W' a a' c' rs := by
  rcases h with h | ⟨h, g, h1, h2, h3, h4, h5⟩
  · exact .inl h
  · exact .inr ⟨h, g, h1, h2, h3, Nat.lt_of_lt_of_le h4 hb.size, fun j r hj => (h5 j r hj).below hb h4⟩
theorem RecAt.setCell {w : World} {g o b k : Nat} {r : Rec} (h : RecAt w g o r) (hne : g ≠ b) (v : Value) : RecAt (w.setCell ⟨b, k, none⟩ v) g o r := by
  have hc : ∀ i, (w.setCell ⟨b, k, none⟩ v).cell? ⟨g, i, none⟩ = w.cell? ⟨g, i, none⟩ := fun i => World.cell?_of_block (w := w) (a := ⟨g, i, none⟩) (Below.heap_setCell w ⟨b, k, none⟩ v g hne)
  unfold RecAt at *
  simp only [hc]
  exact h
theorem Lnt.setCell {base : Nat} {W : World} {a a' : Option Addr} {c' : Nat} {rs : List Rec} (h : Lnt base W a a' c' rs) {b : Nat} (hb : b < base) (k : Nat) (v : Value) : Lnt base (W.setCell ⟨b, k, none⟩ v) a a' c' rs := by
  rcases h with h | ⟨h, g, h1, h2, h3, h4, h5⟩
  · exact .inl h
  · exact .inr ⟨h, g, h1, h2, h3, by simpa using h4, fun j r hj => (h5 j r hj).setCell (by omega) v⟩
theorem Lnt.lower {base base' : Nat} {W : World} {a a' : Option Addr} {c' : Nat} {rs : List Rec} (h : Lnt base W a a' c' rs) (hb : base' ≤ base) : Lnt base' W a a' c' rs := by
  rcases h with h | ⟨h, g, h1, h2, h3, h4, h5⟩
  · exact .inl h
  · exact .inr ⟨h, g, h1, h2, Nat.le_trans hb h3, h4, h5⟩
theorem Lnt.recs {base : Nat} {W : World} {a a' : Option Addr} {c' : Nat} {rs : List Rec} (h : Lnt base W a a' c' rs) : RecSl W (.slice a' rs.length c') rs := by
  rcases h with ⟨_, h1, h2, h3⟩ | ⟨_, g, h1, h2, h3, h4, h5⟩
  · exact ⟨a', c', rfl, .inl h3⟩
  · refine ⟨a', c', rfl, .inr ⟨g, 0, h1, h4, by omega, fun j r hj => h5 j r ?_⟩⟩
    rw [List.getElem?_append_left (List.getElem?_eq_some_iff.1 hj).1]; exact hj

theorem add_plain (b o j : Nat) : (⟨b, o, none⟩ : Addr).add j = ⟨b, o + j, none⟩ := Addr.add_mid b o j

theorem lent_any (a : Option Addr) (c : Nat) (rs : List Rec) (w : World) (hN : rs.length ≤ 1048576) (h0 : a = none → rs = [] ∧ c = 0) (hr : RecSl w (.slice a rs.length c) rs) :
    Calls Tryz.prog 123 #[.slice a rs.length c] w fun e w' => ∃ a' c', e = .returned (.slice a' rs.length c') ∧ Lnt w.heap.size w' a a' c' rs ∧ Below w.heap.size w w' := by
  cases a with
  | none =>
    obtain ⟨rfl, rfl⟩ := h0 rfl
    refine (lent_nil w).mono ?_
    rintro e w' ⟨rfl, rfl⟩
    exact ⟨none, 0, rfl, .inl ⟨rfl, rfl, rfl, rfl⟩, Below.refl _ _⟩
  | some ad =>
    have hsrc : (∀ j v, (rcells rs)[j]? = some v → w.cell? (ad.add j) = some v) ∧ (rs.length ≠ 0 → ad.block < w.heap.size) := by
      obtain ⟨a1, c1, hv, h | ⟨g, o, ha, hg, _, hrc⟩⟩ := hr
      · subst h
        exact ⟨fun j v hj => by simp [rcells] at hj, fun h => absurd rfl h⟩
      · simp only [Value.slice.injEq, true_and] at hv
        obtain ⟨rfl, rfl⟩ := hv
        simp only [Option.some.injEq] at ha
        subst ha
        exact ⟨fun j v hj => by rw [add_plain]; exact cells_of_recs rs o hrc j v hj, fun _ => hg⟩
    refine (lent_some ad c rs w hN hsrc.1 hsrc.2).mono ?_
    rintro e w' ⟨v, rfl, ⟨g, rfl, hg, hge, hrec⟩, hb⟩
    exact ⟨_, _, rfl, .inr ⟨⟨ad, rfl⟩, g, rfl, rfl, hge, hg, hrec⟩, hb⟩

theorem still_any (base : Nat) (a a' : Option Addr) (c c' : Nat) (rs : List Rec) (w : World) (hN : rs.length ≤ 1048576) (h0 : a = none → rs = [] ∧ c = 0) (hr : RecSl w (.slice a rs.length c) rs) (hl : Lnt base w a a' c' rs) :
    Calls Tryz.prog 125 #[.slice a' rs.length c', .slice a rs.length c] w fun e w' => e = .returned (.bool true) ∧ Below w.heap.size w w' := by
  rcases hl with ⟨h1, h2, h3, h4⟩ | ⟨⟨ad, h⟩, g, h1, h2, h3, h4, h5⟩
  · obtain ⟨_, hc⟩ := h0 h1
    subst h1 h2 h3 h4 hc
    exact still_nil _ w
  · subst h h1 h2
    exact still_some _ ad c rs w hN ⟨g, rfl, h4, h5⟩ hr
end Go.Proofs.YtefdokkadckbbaaGreatDoor
