/- From a reading of a script to its steps: records, messages, steps. -/
import Derived.Test.YtefdokkadckbbaaGreatDoorRows
import Derived.Test.YtefdokkadckbbaaGreatDoorE2
import Derived.Deep.Slices
import Derived.ProofKit
namespace Go.Proofs.YtefdokkadckbbaaGreatDoor
open Go.RowKit Go.Deep Go.ChangeShapes Go.WideShapes
set_option maxRecDepth 100000

section
variable {H : Type} {enc : TypeId × Value → H} {w : World} {base : Nat} {spare : Nat → Bool} {held : Bool}

theorem ce3 : Tryz.prog.cellsOf 3 = 1 := by kernel_rfl
theorem ce4 : Tryz.prog.cellsOf 4 = 1 := by kernel_rfl
theorem ce9 : Tryz.prog.cellsOf 9 = 1 := by kernel_rfl
theorem ce28 : Tryz.prog.cellsOf 28 = 1 := by kernel_rfl
theorem ce39 : Tryz.prog.cellsOf 25 = 1 := by kernel_rfl
theorem ce42 : Tryz.prog.cellsOf 31 = 1 := by kernel_rfl
theorem ce38 : Tryz.prog.cellsOf 30 = 5 := by kernel_rfl
theorem ce41 : Tryz.prog.cellsOf 27 = 8 := by kernel_rfl
theorem ce44 : Tryz.prog.cellsOf 33 = 18 := by kernel_rfl
theorem ce91 : Tryz.prog.cellsOf 71 = 5 := by kernel_rfl

theorem trodS5 {t : TypeId} {f0 f1 f2 f3 f4 : Field} {fuel : Nat} {cs : List Value} {x : DataW H × List MemPlace} (ht : Tryz.prog.underlying t = some (.struct #[f0, f1, f2, f3, f4])) (h : DataW.trod enc Tryz.prog w base spare held fuel t cs = some x) :
    ∃ y0 y1 y2 y3 y4 n, x.1 = .agg [y0.1, y1.1, y2.1, y3.1, y4.1] ∧ cs.length = Tryz.prog.cellsOf t ∧ DataW.trod enc Tryz.prog w base spare held n f0.type ((cs.drop f0.offset).take (Tryz.prog.cellsOf f0.type)) = some y0 ∧ DataW.trod enc Tryz.prog w base spare held n f1.type ((cs.drop f1.offset).take (Tryz.prog.cellsOf f1.type)) = some y1 ∧ DataW.trod enc Tryz.prog w base spare held n f2.type ((cs.drop f2.offset).take (Tryz.prog.cellsOf f2.type)) = some y2 ∧ DataW.trod enc Tryz.prog w base spare held n f3.type ((cs.drop f3.offset).take (Tryz.prog.cellsOf f3.type)) = some y3 ∧ DataW.trod enc Tryz.prog w base spare held n f4.type ((cs.drop f4.offset).take (Tryz.prog.cellsOf f4.type)) = some y4 := by
  obtain ⟨xs, n, _, rfl, hl, hlen, hf⟩ := DataW.trod_struct ht h
  match xs, hlen with
  | [y0, y1, y2, y3, y4], _ => exact ⟨y0, y1, y2, y3, y4, n, by simp, hl, by simpa using hf 0 f0 rfl, by simpa using hf 1 f1 rfl, by simpa using hf 2 f2 rfl, by simpa using hf 3 f3 rfl, by simpa using hf 4 f4 rfl⟩
theorem trodS7 {t : TypeId} {f0 f1 f2 f3 f4 f5 f6 : Field} {fuel : Nat} {cs : List Value} {x : DataW H × List MemPlace} (ht : Tryz.prog.underlying t = some (.struct #[f0, f1, f2, f3, f4, f5, f6])) (h : DataW.trod enc Tryz.prog w base spare held fuel t cs = some x) :
    ∃ y0 y1 y2 y3 y4 y5 y6 n, x.1 = .agg [y0.1, y1.1, y2.1, y3.1, y4.1, y5.1, y6.1] ∧ cs.length = Tryz.prog.cellsOf t ∧ DataW.trod enc Tryz.prog w base spare held n f0.type ((cs.drop f0.offset).take (Tryz.prog.cellsOf f0.type)) = some y0 ∧ DataW.trod enc Tryz.prog w base spare held n f1.type ((cs.drop f1.offset).take (Tryz.prog.cellsOf f1.type)) = some y1 ∧ DataW.trod enc Tryz.prog w base spare held n f2.type ((cs.drop f2.offset).take (Tryz.prog.cellsOf f2.type)) = some y2 ∧ DataW.trod enc Tryz.prog w base spare held n f3.type ((cs.drop f3.offset).take (Tryz.prog.cellsOf f3.type)) = some y3 ∧ DataW.trod enc Tryz.prog w base spare held n f4.type ((cs.drop f4.offset).take (Tryz.prog.cellsOf f4.type)) = some y4 ∧ DataW.trod enc Tryz.prog w base spare held n f5.type ((cs.drop f5.offset).take (Tryz.prog.cellsOf f5.type)) = some y5 ∧ DataW.trod enc Tryz.prog w base spare held n f6.type ((cs.drop f6.offset).take (Tryz.prog.cellsOf f6.type)) = some y6 := by
  obtain ⟨xs, n, _, rfl, hl, hlen, hf⟩ := DataW.trod_struct ht h
  match xs, hlen with
  | [y0, y1, y2, y3, y4, y5, y6], _ => exact ⟨y0, y1, y2, y3, y4, y5, y6, n, by simp, hl, by simpa using hf 0 f0 rfl, by simpa using hf 1 f1 rfl, by simpa using hf 2 f2 rfl, by simpa using hf 3 f3 rfl, by simpa using hf 4 f4 rfl, by simpa using hf 5 f5 rfl, by simpa using hf 6 f6 rfl⟩
theorem trodS8 {t : TypeId} {f0 f1 f2 f3 f4 f5 f6 f7 : Field} {fuel : Nat} {cs : List Value} {x : DataW H × List MemPlace} (ht : Tryz.prog.underlying t = some (.struct #[f0, f1, f2, f3, f4, f5, f6, f7])) (h : DataW.trod enc Tryz.prog w base spare held fuel t cs = some x) :
    ∃ y0 y1 y2 y3 y4 y5 y6 y7 n, x.1 = .agg [y0.1, y1.1, y2.1, y3.1, y4.1, y5.1, y6.1, y7.1] ∧ cs.length = Tryz.prog.cellsOf t ∧ DataW.trod enc Tryz.prog w base spare held n f0.type ((cs.drop f0.offset).take (Tryz.prog.cellsOf f0.type)) = some y0 ∧ DataW.trod enc Tryz.prog w base spare held n f1.type ((cs.drop f1.offset).take (Tryz.prog.cellsOf f1.type)) = some y1 ∧ DataW.trod enc Tryz.prog w base spare held n f2.type ((cs.drop f2.offset).take (Tryz.prog.cellsOf f2.type)) = some y2 ∧ DataW.trod enc Tryz.prog w base spare held n f3.type ((cs.drop f3.offset).take (Tryz.prog.cellsOf f3.type)) = some y3 ∧ DataW.trod enc Tryz.prog w base spare held n f4.type ((cs.drop f4.offset).take (Tryz.prog.cellsOf f4.type)) = some y4 ∧ DataW.trod enc Tryz.prog w base spare held n f5.type ((cs.drop f5.offset).take (Tryz.prog.cellsOf f5.type)) = some y5 ∧ DataW.trod enc Tryz.prog w base spare held n f6.type ((cs.drop f6.offset).take (Tryz.prog.cellsOf f6.type)) = some y6 ∧ DataW.trod enc Tryz.prog w base spare held n f7.type ((cs.drop f7.offset).take (Tryz.prog.cellsOf f7.type)) = some y7 := by
  obtain ⟨xs, n, _, rfl, hl, hlen, hf⟩ := DataW.trod_struct ht h
  match xs, hlen with
  | [y0, y1, y2, y3, y4, y5, y6, y7], _ => exact ⟨y0, y1, y2, y3, y4, y5, y6, y7, n, by simp, hl, by simpa using hf 0 f0 rfl, by simpa using hf 1 f1 rfl, by simpa using hf 2 f2 rfl, by simpa using hf 3 f3 rfl, by simpa using hf 4 f4 rfl, by simpa using hf 5 f5 rfl, by simpa using hf 6 f6 rfl, by simpa using hf 7 f7 rfl⟩

/-- What a record reads as. -/
def recD (r : Rec) : DataW H := .agg [.lit (.string (tl r.name)), .lit (.int .i64 r.ty), .lit (.int .i64 r.ttl), .lit (.int .i64 r.num), .lit (.string (tl r.target))]

theorem rec_read {fuel : Nat} {cs : List Value} {x : DataW H × List MemPlace} (h : DataW.trod enc Tryz.prog w base spare held fuel 71 cs = some x) : ∃ r : Rec, cs = rc1 r ∧ x.1 = recD r := by
  obtain ⟨y0, y1, y2, y3, y4, n, hx, hl, h0, h1, h2, h3, h4⟩ := trodS5 Tryz.underlying71 h
  rw [ce91] at hl
  match cs, hl with
  | [c0, c1, c2, c3, c4], _ =>
    simp only [ce3, ce9, List.drop_zero, List.drop_succ_cons, List.take_succ_cons, List.take_zero] at h0 h1 h2 h3 h4
    obtain ⟨s0, e0, rfl, _⟩ := DataW.trod_string Tryz.underlying9 h0
    obtain ⟨i1, e1, rfl, _⟩ := DataW.trod_int Tryz.underlying3 h1
    obtain ⟨i2, e2, rfl, _⟩ := DataW.trod_int Tryz.underlying3 h2
    obtain ⟨i3, e3, rfl, _⟩ := DataW.trod_int Tryz.underlying3 h3
    obtain ⟨s4, e4, rfl, _⟩ := DataW.trod_string Tryz.underlying9 h4
    simp only [List.cons.injEq, and_true] at e0 e1 e2 e3 e4
    subst e0 e1 e2 e3 e4
    exact ⟨⟨s0, i1, i2, i3, s4⟩, rfl, hx⟩

theorem some_rec : Nonempty (Inhabited Rec) := ⟨⟨⟨⟨#[]⟩, 0, 0, 0, ⟨#[]⟩⟩⟩⟩

theorem bulk_rec (r : Rec) : Rows.uptoBulk (recD (H := H) r) = r.name.size + r.target.size + 6 := by
  unfold recD
  simp only [Rows.uptoBulk, Rows.uptoBulkAll, tl_length]
  omega

theorem one_le (d : DataW H) : 1 ≤ Rows.uptoBulk d := by
  cases d with
  | lit l => cases l <;> simp [Rows.uptoBulk]
  | nil => simp [Rows.uptoBulk]
  | ptr d => simp [Rows.uptoBulk]
  | slice elems spare => simp [Rows.uptoBulk]
  | agg parts => simp [Rows.uptoBulk]
  | iface t d => simp [Rows.uptoBulk]
  | map entries => simp [Rows.uptoBulk]
  | held h => simp [Rows.uptoBulk]
theorem part_le {d : DataW H} {l : List (DataW H)} (h : d ∈ l) : Rows.uptoBulk d ≤ Rows.uptoBulkAll l := by
  induction l with
  | nil => cases h
  | cons x r ih =>
    simp only [Rows.uptoBulkAll]
    cases List.mem_cons.1 h with
    | inl e => subst e; omega
    | inr e => have := ih e; omega
theorem length_le (l : List (DataW H)) : l.length ≤ Rows.uptoBulkAll l := by
  induction l with
  | nil => simp [Rows.uptoBulkAll]
  | cons x r ih => have := one_le x; simp only [Rows.uptoBulkAll, List.length_cons]; omega

/-- A list of records, read. -/
theorem recs_read {fuel : Nat} {v : Value} {x : DataW H × List MemPlace} (h : DataW.trod enc Tryz.prog w base spare held fuel 25 [v] = some x) :
    ∃ (a : Option Addr) (c : Nat) (rs : List Rec), v = .slice a rs.length c ∧ (a = none → rs = [] ∧ c = 0) ∧ RecSl w v rs ∧ rs.length ≤ Rows.uptoBulk x.1 ∧ ∀ (j : Nat) (r : Rec), rs[j]? = some r → r.name.size + r.target.size ≤ Rows.uptoBulk x.1 := by
  rcases open_slice Tryz.underlying25 h with ⟨hcs, rfl⟩ | ⟨a, len, cap, m, n, D, Pl, hcs, _, hl, _, hm, rfl, hx⟩
  · simp only [List.cons.injEq, and_true] at hcs
    subst hcs
    exact ⟨none, 0, [], rfl, fun _ => ⟨rfl, rfl⟩, ⟨none, 0, rfl, .inl rfl⟩, by simp, fun j r hj => by simp at hj⟩
  · simp only [List.cons.injEq, and_true] at hcs
    subst hcs
    have hlm : len ≤ m := by rw [hm]; split <;> omega
    obtain ⟨_hin⟩ := some_rec
    obtain ⟨R, hR⟩ := choose_lt (α := Rec) (n := len) (p := fun i r => (∀ k, k < 5 → w.cell? (a.add (i * 5 + k)) = (rc1 r)[k]?) ∧ D i = recD r) (fun i hi => by
      obtain ⟨cs', h1, h2⟩ := hx i (by omega)
      obtain ⟨r, rfl, hd⟩ := rec_read h2
      rw [ce91] at h1
      obtain ⟨_, _, hc⟩ := World.cells?_some h1
      exact ⟨r, fun k hk => by rw [← add_add]; exact hc k hk, hd⟩)
    have hlen : ((List.range len).map R).length = len := by simp
    have hget : ∀ (j : Nat) (r : Rec), ((List.range len).map R)[j]? = some r → j < len ∧ r = R j := by
      intro j r hj
      by_cases hjl : j < len
      · simp [hjl] at hj; exact ⟨hjl, hj.symm⟩
      · simp [hjl] at hj
    refine ⟨some a, cap, (List.range len).map R, by rw [hlen], (fun h => by cases h), ?_, ?_, ?_⟩
    · refine ⟨some a, cap, by rw [hlen], ?_⟩
      by_cases h0 : len = 0
      · left; subst h0; rfl
      right
      obtain ⟨b, off, spot⟩ := a
      have hc0 := (hR 0 (by omega)).1 0 (by omega)
      simp only [Nat.zero_mul, Nat.add_zero] at hc0
      have hspot : spot = none := by simpa [Addr.add] using World.cell?_spot (show w.cell? ((⟨b, off, spot⟩ : Addr).add 0) = some _ from hc0)
      subst hspot
      have hcell : w.cell? ⟨b, off, none⟩ = some (.string (R 0).name) := by simpa [Addr.add, rc1] using hc0
      have hblk : b < w.heap.size := by
        unfold World.cell? at hcell
        cases hh : w.heap[b]? with
        | none => simp [hh] at hcell
        | some o => exact (Array.getElem?_eq_some_iff.1 hh).1
      refine ⟨b, off, rfl, hblk, by rw [hlen]; exact hl, fun j r hj => ?_⟩
      obtain ⟨hjl, rfl⟩ := hget j r hj
      have hc := (hR j hjl).1
      have q : ∀ k, k < 5 → w.cell? ⟨b, off + j * 5 + k, none⟩ = (rc1 (R j))[k]? := fun k hk => by
        have := hc k hk
        rw [add_plain] at this
        rw [Nat.add_assoc]; exact this
      exact ⟨q 0 (by omega), q 1 (by omega), q 2 (by omega), q 3 (by omega), q 4 (by omega)⟩
    · rw [hlen]
      have := length_le ((List.range len).map D)
      simp only [List.length_map, List.length_range] at this
      simp only [Rows.uptoBulk]; omega
    · intro j r hj
      obtain ⟨hjl, rfl⟩ := hget j r hj
      have hd := (hR j hjl).2
      have hmem : D j ∈ (List.range len).map D := List.mem_map_of_mem (List.mem_range.2 hjl)
      have := part_le hmem
      rw [hd, bulk_rec] at this
      simp only [Rows.uptoBulk]; omega
end
end Go.Proofs.YtefdokkadckbbaaGreatDoor
