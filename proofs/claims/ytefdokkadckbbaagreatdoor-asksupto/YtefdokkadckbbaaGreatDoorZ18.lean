/- F1 F2 -/
import Derived.Test.YtefdokkadckbbaaGreatDoorRows
import Derived.Test.YtefdokkadckbbaaGreatDoorZ17
import Derived.Deep.Slices
import Derived.ProofKit
section
namespace Go.Proofs.YtefdokkadckbbaaGreatDoor
open Go.RowKit Go.Deep Go.ChangeShapes Go.WideShapes
set_option maxRecDepth 100000
section
variable {H : Type} {enc : TypeId × Value → H} {w : World} {base : Nat} {spare : Nat → Bool} {held : Bool}
theorem ce3 : Tryz.prog.cellsOf 3 = 1 := by kernel_rfl
theorem ce4 : Tryz.prog.cellsOf 4 = 1 := by kernel_rfl
theorem ce9 : Tryz.prog.cellsOf 9 = 1 := by kernel_rfl
theorem ce28 : Tryz.prog.cellsOf 28 = 1 := by kernel_rfl
theorem ce39 : Tryz.prog.cellsOf 25 = 1 := by kernel_rfl
theorem ce42 : Tryz.prog.cellsOf 31 = 1 := by kernel_rfl
theorem ce38 : Tryz.prog.cellsOf 30 = 5 := by kernel_rfl
theorem ce41 : Tryz.prog.cellsOf 27 = 8 := by kernel_rfl
theorem ce44 : Tryz.prog.cellsOf 33 = 18 := by kernel_rfl
theorem ce91 : Tryz.prog.cellsOf 71 = 5 := by kernel_rfl
theorem trodS5 {t : TypeId} {f0 f1 f2 f3 f4 : Field} {fuel : Nat} {cs : List Value} {x : DataW H × List MemPlace} (ht : Tryz.prog.underlying t = some (.struct #[f0, f1, f2, f3, f4])) (h : DataW.trod enc Tryz.prog w base spare held fuel t cs = some x) :
  ∃ y0 y1 y2 y3 y4 n, x.1 = .agg [y0.1, y1.1, y2.1, y3.1, y4.1] ∧ cs.length = Tryz.prog.cellsOf t ∧ DataW.trod enc Tryz.prog w base spare held n f0.type ((cs.drop f0.offset).take (Tryz.prog.cellsOf f0.type)) = some y0 ∧ DataW.trod enc Tryz.prog w base spare held n f1.type ((cs.drop f1.offset).take (Tryz.prog.cellsOf f1.type)) = some y1 ∧ DataW.trod enc Tryz.prog w base spare held n f2.type ((cs.drop f2.offset).take (Tryz.prog.cellsOf f2.type)) = some y2 ∧ DataW.trod enc Tryz.prog w base spare held n f3.type ((cs.drop f3.offset).take (Tryz.prog.cellsOf f3.type)) = some y3 ∧ DataW.trod enc Tryz.prog w base spare held n f4.type ((cs.drop f4.offset).take (Tryz.prog.cellsOf f4.type)) = some y4 := by
 obtain ⟨xs, n, _, rfl, hl, hlen, hf⟩ := DataW.trod_struct ht h
 match xs, hlen with
 | [y0, y1, y2, y3, y4], _ => exact ⟨y0, y1, y2, y3, y4, n, by simp, hl, by simpa using hf 0 f0 rfl, by simpa using hf 1 f1 rfl, by simpa using hf 2 f2 rfl, by simpa using hf 3 f3 rfl, by simpa using hf 4 f4 rfl⟩
theorem trodS7 {t : TypeId} {f0 f1 f2 f3 f4 f5 f6 : Field} {fuel : Nat} {cs : List Value} {x : DataW H × List MemPlace} (ht : Tryz.prog.underlying t = some (.struct #[f0, f1, f2, f3, f4, f5, f6])) (h : DataW.trod enc Tryz.prog w base spare held fuel t cs = some x) :
  ∃ y0 y1 y2 y3 y4 y5 y6 n, x.1 = .agg [y0.1, y1.1, y2.1, y3.1, y4.1, y5.1, y6.1] ∧ cs.length = Tryz.prog.cellsOf t ∧ DataW.trod enc Tryz.prog w base spare held n f0.type ((cs.drop f0.offset).take (Tryz.prog.cellsOf f0.type)) = some y0 ∧ DataW.trod enc Tryz.prog w base spare held n f1.type ((cs.drop f1.offset).take (Tryz.prog.cellsOf f1.type)) = some y1 ∧ DataW.trod enc Tryz.prog w base spare held n f2.type ((cs.drop f2.offset).take (Tryz.prog.cellsOf f2.type)) = some y2 ∧ DataW.trod enc Tryz.prog w base spare held n f3.type ((cs.drop f3.offset).take (Tryz.prog.cellsOf f3.type)) = some y3 ∧ DataW.trod enc Tryz.prog w base spare held n f4.type ((cs.drop f4.offset).take (Tryz.prog.cellsOf f4.type)) = some y4 ∧ DataW.trod enc Tryz.prog w base spare held n f5.type ((cs.drop f5.offset).take (Tryz.prog.cellsOf f5.type)) = some y5 ∧ DataW.trod enc Tryz.prog w base spare held n f6.type ((cs.drop f6.offset).take (Tryz.prog.cellsOf f6.type)) = some y6 := by
 obtain ⟨xs, n, _, rfl, hl, hlen, hf⟩ := DataW.trod_struct ht h
 match xs, hlen with
 | [y0, y1, y2, y3, y4, y5, y6], _ => exact ⟨y0, y1, y2, y3, y4, y5, y6, n, by simp, hl, by simpa using hf 0 f0 rfl, by simpa using hf 1 f1 rfl, by simpa using hf 2 f2 rfl, by simpa using hf 3 f3 rfl, by simpa using hf 4 f4 rfl, by simpa using hf 5 f5 rfl, by simpa using hf 6 f6 rfl⟩
theorem trodS8 {t : TypeId} {f0 f1 f2 f3 f4 f5 f6 f7 : Field} {fuel : Nat} {cs : List Value} {x : DataW H × List MemPlace} (ht : Tryz.prog.underlying t = some (.struct #[f0, f1, f2, f3, f4, f5, f6, f7])) (h : DataW.trod enc Tryz.prog w base spare held fuel t cs = some x) :
  ∃ y0 y1 y2 y3 y4 y5 y6 y7 n, x.1 = .agg [y0.1, y1.1, y2.1, y3.1, y4.1, y5.1, y6.1, y7.1] ∧ cs.length = Tryz.prog.cellsOf t ∧ DataW.trod enc Tryz.prog w base spare held n f0.type ((cs.drop f0.offset).take (Tryz.prog.cellsOf f0.type)) = some y0 ∧ DataW.trod enc Tryz.prog w base spare held n f1.type ((cs.drop f1.offset).take (Tryz.prog.cellsOf f1.type)) = some y1 ∧ DataW.trod enc Tryz.prog w base spare held n f2.type ((cs.drop f2.offset).take (Tryz.prog.cellsOf f2.type)) = some y2 ∧ DataW.trod enc Tryz.prog w base spare held n f3.type ((cs.drop f3.offset).take (Tryz.prog.cellsOf f3.type)) = some y3 ∧ DataW.trod enc Tryz.prog w base spare held n f4.type ((cs.drop f4.offset).take (Tryz.prog.cellsOf f4.type)) = some y4 ∧ DataW.trod enc Tryz.prog w base spare held n f5.type ((cs.drop f5.offset).take (Tryz.prog.cellsOf f5.type)) = some y5 ∧ DataW.trod enc Tryz.prog w base spare held n f6.type ((cs.drop f6.offset).take (Tryz.prog.cellsOf f6.type)) = some y6 ∧ DataW.trod enc Tryz.prog w base spare held n f7.type ((cs.drop f7.offset).take (Tryz.prog.cellsOf f7.type)) = some y7 := by
 obtain ⟨xs, n, _, rfl, hl, hlen, hf⟩ := DataW.trod_struct ht h
 match xs, hlen with
 | [y0, y1, y2, y3, y4, y5, y6, y7], _ => exact ⟨y0, y1, y2, y3, y4, y5, y6, y7, n, by simp, hl, by simpa using hf 0 f0 rfl, by simpa using hf 1 f1 rfl, by simpa using hf 2 f2 rfl, by simpa using hf 3 f3 rfl, by simpa using hf 4 f4 rfl, by simpa using hf 5 f5 rfl, by simpa using hf 6 f6 rfl, by simpa using hf 7 f7 rfl⟩
def recD (r : Rec) : DataW H := .agg [.lit (.string (tl r.name)), .lit (.int .i64 r.ty), .lit (.int .i64 r.ttl), .lit (.int .i64 r.num), .lit (.string (tl r.target))]
theorem rec_read {fuel : Nat} {cs : List Value} {x : DataW H × List MemPlace} (h : DataW.trod enc Tryz.prog w base spare held fuel 71 cs = some x) : ∃ r : Rec, cs = rc1 r ∧ x.1 = recD r := by
 obtain ⟨y0, y1, y2, y3, y4, n, hx, hl, h0, h1, h2, h3, h4⟩ := trodS5 Tryz.underlying71 h
 rw [ce91] at hl
 match cs, hl with
 | [c0, c1, c2, c3, c4], _ =>
  simp only [ce3, ce9, List.drop_zero, List.drop_succ_cons, List.take_succ_cons, List.take_zero] at h0 h1 h2 h3 h4
  obtain ⟨s0, e0, rfl, _⟩ := DataW.trod_string Tryz.underlying9 h0
  obtain ⟨i1, e1, rfl, _⟩ := DataW.trod_int Tryz.underlying3 h1
  obtain ⟨i2, e2, rfl, _⟩ := DataW.trod_int Tryz.underlying3 h2
  obtain ⟨i3, e3, rfl, _⟩ := DataW.trod_int Tryz.underlying3 h3
  obtain ⟨s4, e4, rfl, _⟩ := DataW.trod_string Tryz.underlying9 h4
  simp only [List.cons.injEq, and_true] at e0 e1 e2 e3 e4
  subst e0 e1 e2 e3 e4
  exact ⟨⟨s0, i1, i2, i3, s4⟩, rfl, hx⟩
theorem some_rec : Nonempty (Inhabited Rec) := ⟨⟨⟨⟨#[]⟩, 0, 0, 0, ⟨#[]⟩⟩⟩⟩
theorem bulk_rec (r : Rec) : Rows.uptoBulk (recD (H := H) r) = r.name.size + r.target.size + 6 := by
 unfold recD
 simp only [Rows.uptoBulk, Rows.uptoBulkAll, tl_length]
 omega
theorem one_le (d : DataW H) : 1 ≤ Rows.uptoBulk d := by
 cases d with
 | lit l => cases l <;> simp [Rows.uptoBulk]
 | nil => simp [Rows.uptoBulk]
 | ptr d => simp [Rows.uptoBulk]
 | slice elems spare => simp [Rows.uptoBulk]
 | agg parts => simp [Rows.uptoBulk]
 | iface t d => simp [Rows.uptoBulk]
 | map entries => simp [Rows.uptoBulk]
 | held h => simp [Rows.uptoBulk]
theorem part_le {d : DataW H} {l : List (DataW H)} (h : d ∈ l) : Rows.uptoBulk d ≤ Rows.uptoBulkAll l := by
 induction l with
 | nil => cases h
 | cons x r ih =>
  simp only [Rows.uptoBulkAll]
  cases List.mem_cons.1 h with
  | inl e => subst e; omega
  | inr e => have := ih e; omega
theorem length_le (l : List (DataW H)) : l.length ≤ Rows.uptoBulkAll l := by
 induction l with
 | nil => simp [Rows.uptoBulkAll]
 | cons x r ih => have := one_le x; simp only [Rows.uptoBulkAll, List.length_cons]; omega
theorem recs_read {fuel : Nat} {v : Value} {x : DataW H × List MemPlace} (h : DataW.trod enc Tryz.prog w base spare held fuel 25 [v] = some x) :
  ∃ (a : Option Addr) (c : Nat) (rs : List Rec), v = .slice a rs.length c ∧ (a = none → rs = [] ∧ c = 0) ∧ RecSl w v rs ∧ rs.length ≤ Rows.uptoBulk x.1 ∧ ∀ (j : Nat) (r : Rec), rs[j]? = some r → r.name.size + r.target.size ≤ Rows.uptoBulk x.1 := by
 rcases open_slice Tryz.underlying25 h with ⟨hcs, rfl⟩ | ⟨a, len, cap, m, n, D, Pl, hcs, _, hl, _, hm, rfl, hx⟩
 ·simp only [List.cons.injEq, and_true] at hcs
  subst hcs
  exact ⟨none, 0, [], rfl, fun _ => ⟨rfl, rfl⟩, ⟨none, 0, rfl, .inl rfl⟩, by simp, fun j r hj => by simp at hj⟩
 ·simp only [List.cons.injEq, and_true] at hcs
  subst hcs
  have hlm : len ≤ m := by rw [hm]; split <;> omega
  obtain ⟨_hin⟩ := some_rec
  obtain ⟨R, hR⟩ := choose_lt (α := Rec) (n := len) (p := fun i r => (∀ k, k < 5 → w.cell? (a.add (i * 5 + k)) = (rc1 r)[k]?) ∧ D i = recD r) (fun i hi => by
   obtain ⟨cs', h1, h2⟩ := hx i (by omega)
   obtain ⟨r, rfl, hd⟩ := rec_read h2
   rw [ce91] at h1
   obtain ⟨_, _, hc⟩ := World.cells?_some h1
   exact ⟨r, fun k hk => by rw [← add_add]; exact hc k hk, hd⟩)
  have hlen : ((List.range len).map R).length = len := by simp
  have hget : ∀ (j : Nat) (r : Rec), ((List.range len).map R)[j]? = some r → j < len ∧ r = R j := by
   intro j r hj
   by_cases hjl : j < len
   ·simp [hjl] at hj; exact ⟨hjl, hj.symm⟩
   ·simp [hjl] at hj
  refine ⟨some a, cap, (List.range len).map R, by rw [hlen], (fun h => by cases h), ?_, ?_, ?_⟩
  ·refine ⟨some a, cap, by rw [hlen], ?_⟩
   by_cases h0 : len = 0
   ·left; subst h0; rfl
   right
   obtain ⟨b, off, spot⟩ := a
   have hc0 := (hR 0 (by omega)).1 0 (by omega)
   simp only [Nat.zero_mul, Nat.add_zero] at hc0
   have hspot : spot = none := by simpa [Addr.add] using World.cell?_spot (show w.cell? ((⟨b, off, spot⟩ : Addr).add 0) = some _ from hc0)
   subst hspot
   have hcell : w.cell? ⟨b, off, none⟩ = some (.string (R 0).name) := by simpa [Addr.add, rc1] using hc0
   have hblk : b < w.heap.size := by
    unfold World.cell? at hcell
    cases hh : w.heap[b]? with
    | none => simp [hh] at hcell
    | some o => exact (Array.getElem?_eq_some_iff.1 hh).1
   refine ⟨b, off, rfl, hblk, by rw [hlen]; exact hl, fun j r hj => ?_⟩
   obtain ⟨hjl, rfl⟩ := hget j r hj
   have hc := (hR j hjl).1
   have q : ∀ k, k < 5 → w.cell? ⟨b, off + j * 5 + k, none⟩ = (rc1 (R j))[k]? := fun k hk => by
    have := hc k hk
    rw [add_plain] at this
    rw [Nat.add_assoc]; exact this
   exact ⟨q 0 (by omega), q 1 (by omega), q 2 (by omega), q 3 (by omega), q 4 (by omega)⟩
  ·rw [hlen]
   have := length_le ((List.range len).map D)
   simp only [List.length_map, List.length_range] at this
   simp only [Rows.uptoBulk]; omega
  ·intro j r hj
   obtain ⟨hjl, rfl⟩ := hget j r hj
   have hd := (hR j hjl).2
   have hmem : D j ∈ (List.range len).map D := List.mem_map_of_mem (List.mem_range.2 hjl)
   have := part_le hmem
   rw [hd, bulk_rec] at this
   simp only [Rows.uptoBulk]; omega
end
end Go.Proofs.YtefdokkadckbbaaGreatDoor
end
section
namespace Go.Proofs.YtefdokkadckbbaaGreatDoor
open Go.RowKit Go.Deep Go.ChangeShapes Go.WideShapes
set_option maxRecDepth 100000
section
variable {H : Type} {enc : TypeId × Value → H} {w : World} {base : Nat} {spare : Nat → Bool} {held : Bool}
theorem slice_shape {t e : TypeId} {fuel : Nat} {v : Value} {x : DataW H × List MemPlace} (ht : Tryz.prog.underlying t = some (.slice e)) (h : DataW.trod enc Tryz.prog w base spare held fuel t [v] = some x) : ∃ a n c, v = .slice a n c := by
 rcases open_slice ht h with ⟨hcs, _⟩ | ⟨a, len, cap, m, n, D, Pl, hcs, _⟩
 ·simp only [List.cons.injEq, and_true] at hcs; exact ⟨none, 0, 0, hcs⟩
 ·simp only [List.cons.injEq, and_true] at hcs; exact ⟨some a, len, cap, hcs⟩
def opc (p : OpR) : List Value := [.int .i64 p.kind, .int .i64 p.at_, .int .i64 p.x, .int .i64 p.m.id, .bool p.m.reply, .int .i64 p.m.code, .string p.m.name, .int .i64 p.m.ty, .slice p.a0 p.m.answer.length p.c0, .slice p.a1 p.m.servers.length p.c1, .slice p.a2 p.m.more.length p.c2, .string p.s, .slice p.ha p.hn p.hc, .int .i64 p.e1, .int .i64 p.e2, .int .i64 p.e3, .int .i64 p.e4, .slice p.la p.ln p.lc]
theorem small_of {rs : List Rec} {n : Nat} (hn : n ≤ 1048576) (h : ∀ (j : Nat) (r : Rec), rs[j]? = some r → r.name.size + r.target.size ≤ n) : Small rs := fun j r hj => by
 have := h j r hj; omega
set_option maxHeartbeats 1000000 in
theorem op_read {fuel : Nat} {cs : List Value} {x : DataW H × List MemPlace} (h : DataW.trod enc Tryz.prog w base spare held fuel 33 cs = some x) (hb : Rows.uptoBulk x.1 ≤ 1048576) : ∃ p : OpR, cs = opc p ∧ OpGood w p := by
 obtain ⟨y0, y1, y2, y3, y4, y5, y6, n, hx, hl, h0, h1, h2, h3, h4, h5, h6⟩ := trodS7 Tryz.underlying33 h
 rw [ce44] at hl
 rw [hx] at hb
 simp only [Rows.uptoBulk, Rows.uptoBulkAll] at hb
 match cs, hl with
 | [k0, k1, k2, m0, m1, m2, m3, m4, m5, m6, m7, s0, c0, c1, c2, c3, c4, l0], _ =>
  simp only [ce3, ce9, ce38, ce41, ce42, List.drop_zero, List.drop_succ_cons, List.take_succ_cons, List.take_zero] at h0 h1 h2 h3 h4 h5 h6
  obtain ⟨kind, e0, rfl, _⟩ := DataW.trod_int Tryz.underlying3 h0
  obtain ⟨at_, e1, rfl, _⟩ := DataW.trod_int Tryz.underlying3 h1
  obtain ⟨xx, e2, rfl, _⟩ := DataW.trod_int Tryz.underlying3 h2
  obtain ⟨s, e4, rfl, _⟩ := DataW.trod_string Tryz.underlying9 h4
  obtain ⟨la, ln, lc, e6⟩ := slice_shape Tryz.underlying31 h6
  obtain ⟨z0, z1, z2, z3, z4, z5, z6, z7, n', hz, _, g0, g1, g2, g3, g4, g5, g6, g7⟩ := trodS8 Tryz.underlying27 h3
  obtain ⟨q0, q1, q2, q3, q4, n'', hq, _, r0, r1, r2, r3, r4⟩ := trodS5 Tryz.underlying30 h5
  simp only [ce3, ce4, ce9, ce28, ce39, List.drop_zero, List.drop_succ_cons, List.take_succ_cons, List.take_zero] at g0 g1 g2 g3 g4 g5 g6 g7 r0 r1 r2 r3 r4
  obtain ⟨id, i0, rfl, _⟩ := DataW.trod_int Tryz.underlying3 g0
  obtain ⟨rep, i1, rfl⟩ := DataW.trod_bool Tryz.underlying4 g1
  obtain ⟨code, i2, rfl, _⟩ := DataW.trod_int Tryz.underlying3 g2
  obtain ⟨nm, i3, rfl, _⟩ := DataW.trod_string Tryz.underlying9 g3
  obtain ⟨ty, i4, rfl, _⟩ := DataW.trod_int Tryz.underlying3 g4
  rw [hz] at hb
  simp only [Rows.uptoBulk, Rows.uptoBulkAll] at hb
  obtain ⟨a0, d0, ra, i5, na, sa, la', ba⟩ := recs_read g5
  obtain ⟨a1, d1, rb, i6, nb, sb, lb', bb⟩ := recs_read g6
  obtain ⟨a2, d2, rd, i7, nd, sd, ld', bd⟩ := recs_read g7
  obtain ⟨ha, hn, hc, j0⟩ := slice_shape Tryz.underlying28 r0
  obtain ⟨e1', j1, rfl, _⟩ := DataW.trod_int Tryz.underlying3 r1
  obtain ⟨e2', j2, rfl, _⟩ := DataW.trod_int Tryz.underlying3 r2
  obtain ⟨e3', j3, rfl, _⟩ := DataW.trod_int Tryz.underlying3 r3
  obtain ⟨e4', j4, rfl, _⟩ := DataW.trod_int Tryz.underlying3 r4
  simp only [List.cons.injEq, and_true] at e0 e1 e2 e4 i0 i1 i2 i3 i4 j1 j2 j3 j4
  subst e0 e1 e2 e4 e6 i0 i1 i2 i3 i4 i5 i6 i7 j0 j1 j2 j3 j4
  have hnl : nm.data.toList.length = nm.size := rfl
  refine ⟨⟨kind, at_, xx, ⟨id, rep, code, nm, ty, ra, rb, rd⟩, a0, d0, a1, d1, a2, d2, s, ha, hn, hc, e1', e2', e3', e4', la, ln, lc⟩, rfl, ⟨by show nm.size ≤ 1048576; omega, small_of (by omega) ba, small_of (by omega) bb, small_of (by omega) bd⟩, ⟨by show ra.length ≤ 1048576; omega, by show rb.length ≤ 1048576; omega, by show rd.length ≤ 1048576; omega⟩, na, nb, nd, sa, sb, sd⟩
theorem opAt_of {g o : Nat} {p : OpR} (h : ∀ k, k < 18 → w.cell? ⟨g, o + k, none⟩ = (opc p)[k]?) : OpAt w g o p :=
 ⟨h 0 (by omega), h 1 (by omega), h 2 (by omega), h 3 (by omega), h 4 (by omega), h 5 (by omega), h 6 (by omega), h 7 (by omega), h 8 (by omega), h 9 (by omega), h 10 (by omega), h 11 (by omega), h 12 (by omega), h 13 (by omega), h 14 (by omega), h 15 (by omega), h 16 (by omega), h 17 (by omega)⟩
theorem some_op : Nonempty (Inhabited OpR) := ⟨⟨⟨0, 0, 0, ⟨0, false, 0, ⟨#[]⟩, 0, [], [], []⟩, none, 0, none, 0, none, 0, ⟨#[]⟩, none, 0, 0, 0, 0, 0, 0, none, 0, 0⟩⟩⟩
end
end Go.Proofs.YtefdokkadckbbaaGreatDoor
end
