/- From a reading of a script to its steps. -/
import Derived.Test.YtefdokkadckbbaaGreatDoorF1
namespace Go.Proofs.YtefdokkadckbbaaGreatDoor
open Go.RowKit Go.Deep Go.ChangeShapes Go.WideShapes
set_option maxRecDepth 100000

section
variable {H : Type} {enc : TypeId × Value → H} {w : World} {base : Nat} {spare : Nat → Bool} {held : Bool}

theorem slice_shape {t e : TypeId} {fuel : Nat} {v : Value} {x : DataW H × List MemPlace} (ht : Tryz.prog.underlying t = some (.slice e)) (h : DataW.trod enc Tryz.prog w base spare held fuel t [v] = some x) : ∃ a n c, v = .slice a n c := by
  rcases open_slice ht h with ⟨hcs, _⟩ | ⟨a, len, cap, m, n, D, Pl, hcs, _⟩
  · simp only [List.cons.injEq, and_true] at hcs; exact ⟨none, 0, 0, hcs⟩
  · simp only [List.cons.injEq, and_true] at hcs; exact ⟨some a, len, cap, hcs⟩

/-- The cells of a step. -/
def opc (p : OpR) : List Value := [.int .i64 p.kind, .int .i64 p.at_, .int .i64 p.x, .int .i64 p.m.id, .bool p.m.reply, .int .i64 p.m.code, .string p.m.name, .int .i64 p.m.ty, .slice p.a0 p.m.answer.length p.c0, .slice p.a1 p.m.servers.length p.c1, .slice p.a2 p.m.more.length p.c2, .string p.s, .slice p.ha p.hn p.hc, .int .i64 p.e1, .int .i64 p.e2, .int .i64 p.e3, .int .i64 p.e4, .slice p.la p.ln p.lc]

theorem small_of {rs : List Rec} {n : Nat} (hn : n ≤ 1048576) (h : ∀ (j : Nat) (r : Rec), rs[j]? = some r → r.name.size + r.target.size ≤ n) : Small rs := fun j r hj => by
  have := h j r hj; omega

set_option maxHeartbeats 1000000 in
theorem op_read {fuel : Nat} {cs : List Value} {x : DataW H × List MemPlace} (h : DataW.trod enc Tryz.prog w base spare held fuel 33 cs = some x) (hb : Rows.uptoBulk x.1 ≤ 1048576) : ∃ p : OpR, cs = opc p ∧ OpGood w p := by
  obtain ⟨y0, y1, y2, y3, y4, y5, y6, n, hx, hl, h0, h1, h2, h3, h4, h5, h6⟩ := trodS7 Tryz.underlying33 h
  rw [ce44] at hl
  rw [hx] at hb
  simp only [Rows.uptoBulk, Rows.uptoBulkAll] at hb
  match cs, hl with
  | [k0, k1, k2, m0, m1, m2, m3, m4, m5, m6, m7, s0, c0, c1, c2, c3, c4, l0], _ =>
    simp only [ce3, ce9, ce38, ce41, ce42, List.drop_zero, List.drop_succ_cons, List.take_succ_cons, List.take_zero] at h0 h1 h2 h3 h4 h5 h6
    obtain ⟨kind, e0, rfl, _⟩ := DataW.trod_int Tryz.underlying3 h0
    obtain ⟨at_, e1, rfl, _⟩ := DataW.trod_int Tryz.underlying3 h1
    obtain ⟨xx, e2, rfl, _⟩ := DataW.trod_int Tryz.underlying3 h2
    obtain ⟨s, e4, rfl, _⟩ := DataW.trod_string Tryz.underlying9 h4
    obtain ⟨la, ln, lc, e6⟩ := slice_shape Tryz.underlying31 h6
    obtain ⟨z0, z1, z2, z3, z4, z5, z6, z7, n', hz, _, g0, g1, g2, g3, g4, g5, g6, g7⟩ := trodS8 Tryz.underlying27 h3
    obtain ⟨q0, q1, q2, q3, q4, n'', hq, _, r0, r1, r2, r3, r4⟩ := trodS5 Tryz.underlying30 h5
    simp only [ce3, ce4, ce9, ce28, ce39, List.drop_zero, List.drop_succ_cons, List.take_succ_cons, List.take_zero] at g0 g1 g2 g3 g4 g5 g6 g7 r0 r1 r2 r3 r4
    obtain ⟨id, i0, rfl, _⟩ := DataW.trod_int Tryz.underlying3 g0
    obtain ⟨rep, i1, rfl⟩ := DataW.trod_bool Tryz.underlying4 g1
    obtain ⟨code, i2, rfl, _⟩ := DataW.trod_int Tryz.underlying3 g2
    obtain ⟨nm, i3, rfl, _⟩ := DataW.trod_string Tryz.underlying9 g3
    obtain ⟨ty, i4, rfl, _⟩ := DataW.trod_int Tryz.underlying3 g4
    rw [hz] at hb
    simp only [Rows.uptoBulk, Rows.uptoBulkAll] at hb
    obtain ⟨a0, d0, ra, i5, na, sa, la', ba⟩ := recs_read g5
    obtain ⟨a1, d1, rb, i6, nb, sb, lb', bb⟩ := recs_read g6
    obtain ⟨a2, d2, rd, i7, nd, sd, ld', bd⟩ := recs_read g7
    obtain ⟨ha, hn, hc, j0⟩ := slice_shape Tryz.underlying28 r0
    obtain ⟨e1', j1, rfl, _⟩ := DataW.trod_int Tryz.underlying3 r1
    obtain ⟨e2', j2, rfl, _⟩ := DataW.trod_int Tryz.underlying3 r2
    obtain ⟨e3', j3, rfl, _⟩ := DataW.trod_int Tryz.underlying3 r3
    obtain ⟨e4', j4, rfl, _⟩ := DataW.trod_int Tryz.underlying3 r4
    simp only [List.cons.injEq, and_true] at e0 e1 e2 e4 i0 i1 i2 i3 i4 j1 j2 j3 j4
    subst e0 e1 e2 e4 e6 i0 i1 i2 i3 i4 i5 i6 i7 j0 j1 j2 j3 j4
    have hnl : nm.data.toList.length = nm.size := rfl
    refine ⟨⟨kind, at_, xx, ⟨id, rep, code, nm, ty, ra, rb, rd⟩, a0, d0, a1, d1, a2, d2, s, ha, hn, hc, e1', e2', e3', e4', la, ln, lc⟩, rfl, ⟨by show nm.size ≤ 1048576; omega, small_of (by omega) ba, small_of (by omega) bb, small_of (by omega) bd⟩, ⟨by show ra.length ≤ 1048576; omega, by show rb.length ≤ 1048576; omega, by show rd.length ≤ 1048576; omega⟩, na, nb, nd, sa, sb, sd⟩

theorem opAt_of {g o : Nat} {p : OpR} (h : ∀ k, k < 18 → w.cell? ⟨g, o + k, none⟩ = (opc p)[k]?) : OpAt w g o p :=
  ⟨h 0 (by omega), h 1 (by omega), h 2 (by omega), h 3 (by omega), h 4 (by omega), h 5 (by omega), h 6 (by omega), h 7 (by omega), h 8 (by omega), h 9 (by omega), h 10 (by omega), h 11 (by omega), h 12 (by omega), h 13 (by omega), h 14 (by omega), h 15 (by omega), h 16 (by omega), h 17 (by omega)⟩

theorem some_op : Nonempty (Inhabited OpR) := ⟨⟨⟨0, 0, 0, ⟨0, false, 0, ⟨#[]⟩, 0, [], [], []⟩, none, 0, none, 0, none, 0, ⟨#[]⟩, none, 0, 0, 0, 0, 0, 0, none, 0, 0⟩⟩⟩

/-- A script, read: its steps. -/
theorem script_read {fuel : Nat} {v : Value} {x : DataW H × List MemPlace} (h : DataW.trod enc Tryz.prog w base spare held fuel 22 [v] = some x) (hb : Rows.uptoBulk x.1 ≤ 1048576) :
    ∃ (a : Option Addr) (c : Nat) (ps : List OpR), v = .slice a ps.length c ∧ ps.length ≤ 1048576 ∧
      ∀ (j : Nat) (p : OpR), ps[j]? = some p → ∃ g o, a = some ⟨g, o, none⟩ ∧ g < w.heap.size ∧ OpAt w g (o + j * 18) p ∧ OpGood w p := by
  rcases open_slice Tryz.underlying22 h with ⟨hcs, rfl⟩ | ⟨a, len, cap, m, n, D, Pl, hcs, _, hl, _, hm, rfl, hx⟩
  · simp only [List.cons.injEq, and_true] at hcs
    subst hcs
    exact ⟨none, 0, [], rfl, by simp, fun j r hj => by simp at hj⟩
  · simp only [List.cons.injEq, and_true] at hcs
    subst hcs
    have hlm : len ≤ m := by rw [hm]; split <;> omega
    have hbl : Rows.uptoBulkAll ((List.range len).map D) ≤ 1048576 := by
      have hb' := hb
      simp only [Rows.uptoBulk] at hb'
      omega
    obtain ⟨_hin⟩ := some_op
    obtain ⟨R, hR⟩ := choose_lt (α := OpR) (n := len) (p := fun i r => (∀ k, k < 18 → w.cell? (a.add (i * 18 + k)) = (opc r)[k]?) ∧ OpGood w r) (fun i hi => by
      obtain ⟨cs', h1, h2⟩ := hx i (by omega)
      have hmem : D i ∈ (List.range len).map D := List.mem_map_of_mem (List.mem_range.2 hi)
      have hle := part_le hmem
      obtain ⟨r, rfl, hd⟩ := op_read h2 (by show Rows.uptoBulk (D i) ≤ 1048576; omega)
      rw [ce44] at h1
      obtain ⟨_, _, hc⟩ := World.cells?_some h1
      exact ⟨r, fun k hk => by rw [← add_add]; exact hc k hk, hd⟩)
    have hlen : ((List.range len).map R).length = len := by simp
    refine ⟨some a, cap, (List.range len).map R, by rw [hlen], ?_, ?_⟩
    · rw [hlen]
      have := length_le ((List.range len).map D)
      simp only [List.length_map, List.length_range] at this
      omega
    · intro j r hj
      have hjl : j < len := by
        by_cases hjl : j < len
        · exact hjl
        · simp [hjl] at hj
      simp [hjl] at hj
      subst hj
      obtain ⟨hc, hgood⟩ := hR j hjl
      obtain ⟨b, off, spot⟩ := a
      have hc0 := (hR 0 (by omega)).1 0 (by omega)
      simp only [Nat.zero_mul, Nat.add_zero] at hc0
      have hspot : spot = none := by simpa [Addr.add] using World.cell?_spot (show w.cell? ((⟨b, off, spot⟩ : Addr).add 0) = some _ from hc0)
      subst hspot
      have hcell : w.cell? ⟨b, off, none⟩ = some (.int .i64 (R 0).kind) := by simpa [Addr.add, opc] using hc0
      have hblk : b < w.heap.size := by
        unfold World.cell? at hcell
        cases hh : w.heap[b]? with
        | none => simp [hh] at hcell
        | some o => exact (Array.getElem?_eq_some_iff.1 hh).1
      refine ⟨b, off, rfl, hblk, opAt_of fun k hk => ?_, hgood⟩
      have := hc k hk
      rw [add_plain] at this
      rw [Nat.add_assoc]; exact this
end
end Go.Proofs.YtefdokkadckbbaaGreatDoor
