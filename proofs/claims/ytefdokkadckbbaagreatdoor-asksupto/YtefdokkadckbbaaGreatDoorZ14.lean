/- T1 -/
import Derived.Test.YtefdokkadckbbaaGreatDoorZ13
namespace Go.Proofs.YtefdokkadckbbaaGreatDoor
open Go.RowKit Go.MapKept Go.Maps
set_option maxRecDepth 100000
theorem _root_.Go.RowKit.Below.set {B : Nat} {a w : World} (h : Below B a w) {b : Nat} (hb : B ≤ b) (o : Nat) (u : Value) : Below B a (w.setCell ⟨b, o, none⟩ u) := h.setCell (p := ⟨b, o, none⟩) hb u
def Mem0 (W : World) (mp : Nat) : Prop := ∃ mm, W.cell? ⟨mp, 2, none⟩ = some (.map (some mm)) ∧ MapIs W Tryz.prog 208 mm (fun _ => none) ∧ mp < W.heap.size
theorem Mem0.below {W W' : World} {mp : Nat} (h : Mem0 W mp) (hb : Below W.heap.size W W') : Mem0 W' mp := by
 obtain ⟨mm, h1, h2, h3⟩ := h
 exact ⟨mm, (hb.cell (p := ⟨mp, 2, none⟩) h3).trans h1, h2.same (hb.block mm h2.lt), Nat.lt_of_lt_of_le h3 hb.size⟩
def zEntC : Array Value := #[.string ⟨#[]⟩, .int .i64 0, .int .i64 0, .int .i64 0, .slice none 0 0]
abbrev zEnt : Value := .agg #[.string ⟨#[]⟩, .int .i64 0, .int .i64 0, .int .i64 0, .slice none 0 0]
theorem zv174 (w : World) : (zeroValue 209).run Tryz.prog w = .ok (.pointer none) w := by kernel_rfl
theorem u134 : Tryz.prog.underlying 192 = some (.map 208 209) := by kernel_rfl
set_option maxHeartbeats 1000000 in
theorem Live_none (mp : Nat) (now kind : Int) (nm : ByteArray) (w : World) (hM : Mem0 w mp) (hn : nm.size ≤ maxLen) (hk : (Lit.int .i64 kind).wf = true) :
  Calls Tryz.prog 287 #[.pointer (some ⟨mp, 0, none⟩), .int .i64 now, .string nm, .int .i64 kind] w fun e w' => e = .returned (.tuple #[zEnt, .bool false]) ∧ Below w.heap.size w w' := by
 have hb1 : Below w.heap.size w (w.alloc (.cells zEntC 167)) := (Below.refl _ _).alloc (Nat.le_refl _) _
 obtain ⟨mm, h2, hmm, hlt⟩ := hM.below hb1
 have hl := hmm.look law173 u134 (zv174 _) (key173 nm kind hn hk)
 simp only [Option.getD_none, zEntC] at hl h2
 clear hmm
 go_enter Tryz.func287, Tryz.ntmps287
 go_wp2
 refine bodyPost_ret (v := .tuple #[zEnt, .bool false]) (by simp [results, Tryz.results287, go_sem]) rfl ?_
 exact ⟨rfl, hb1⟩
abbrev wV (h : Value) (en tr pa mx : Int) (mp : Nat) (now nid : Int) : Value := .agg #[h, .int .i64 en, .int .i64 tr, .int .i64 pa, .int .i64 mx, .pointer (some ⟨mp, 0, none⟩), .int .i64 now, .int .i64 nid]
set_option maxHeartbeats 1000000 in
theorem answer_none (h : Value) (en tr pa mx now nid kind : Int) (mp : Nat) (nm : ByteArray) (w : World) (hM : Mem0 w mp) (hn : nm.size ≤ maxLen) (hk : (Lit.int .i64 kind).wf = true) :
  Calls Tryz.prog 286 #[wV h en tr pa mx mp now nid, .string nm, .int .i64 kind] w fun e w' => e = .returned (.tuple #[zEnt, .bool false]) ∧ Below w.heap.size w w' := by
 have hb1 : Below w.heap.size w ((w.alloc (.cells #[h, .int .i64 en, .int .i64 tr, .int .i64 pa, .int .i64 mx, .pointer (some ⟨mp, 0, none⟩), .int .i64 now, .int .i64 nid] 122)).alloc (.cells #[.string ⟨#[]⟩, .int .i64 0, .int .i64 0, .int .i64 0, .slice none 0 0] 167)) := ((Below.refl _ _).alloc (Nat.le_refl _) _).alloc (by simp) _
 have hM1 := hM.below hb1
 go_enter Tryz.func286, Tryz.ntmps286
 go_wp2_with (go_at_call 287; refine (Live_none mp now kind nm _ hM1 hn hk).mono ?_; rintro e w1 ⟨rfl, hb2⟩; obtain ⟨hc, hf⟩ := bcell hb2; have hz1 : w.heap.size + 1 < w1.heap.size := (by have := hb2.size; simp at this; omega); have hne1 : w.heap.size + 1 ≠ w1.heap.size := Nat.ne_of_lt hz1; have hne0 : w.heap.size ≠ w1.heap.size := (by omega))
 refine bodyPost_ret (v := .tuple #[zEnt, .bool false]) (by simp [results, Tryz.results286, go_sem, hc, hz1]) rfl ⟨rfl, ?_⟩
 have hB := hb1.trans (hb2.mono hb1.size)
 exact ((((((hB.set (Nat.le_succ _) 0 _).set (Nat.le_succ _) 1 _).set (Nat.le_succ _) 2 _).set (Nat.le_succ _) 3 _).set (Nat.le_succ _) 4 _).alloc (by simp; omega) _)
set_option maxHeartbeats 2000000 in
theorem says_none (h : Value) (en tr pa mx now nid kind : Int) (mp : Nat) (nm : ByteArray) (w : World) (hM : Mem0 w mp) (hn : nm.size ≤ maxLen) (hk : (Lit.int .i64 kind).wf = true) :
  Calls Tryz.prog 242 #[wV h en tr pa mx mp now nid, .string nm, .int .i64 kind] w fun e w' => e = .returned (.tuple #[zEnt, .bool false]) ∧ Below w.heap.size w w' := by
 have hb1 : Below w.heap.size w ((w.alloc (.cells #[h, .int .i64 en, .int .i64 tr, .int .i64 pa, .int .i64 mx, .pointer (some ⟨mp, 0, none⟩), .int .i64 now, .int .i64 nid] 122)).alloc (.cells #[.string ⟨#[]⟩, .int .i64 0, .int .i64 0, .int .i64 0, .slice none 0 0] 167)) := ((Below.refl _ _).alloc (Nat.le_refl _) _).alloc (by simp) _
 have hM1 := hM.below hb1
 go_enter Tryz.func242, Tryz.ntmps242
 go_wp2_with (go_at_call 286; refine (answer_none h en tr pa mx now nid kind mp nm _ hM1 hn hk).mono ?_; rintro e w1 ⟨rfl, hb2⟩; obtain ⟨hc, hf⟩ := bcell hb2; have hz1 : w.heap.size + 1 < w1.heap.size := (by have := hb2.size; simp at this; omega); have hne1 : w.heap.size + 1 ≠ w1.heap.size := Nat.ne_of_lt hz1; have hne0 : w.heap.size ≠ w1.heap.size := (by omega))
 go_region
 all_goals go_wp2
 refine bodyPost_ret (v := .tuple #[zEnt, .bool false]) (by simp [results, Tryz.results242, go_sem, hc, hz1]) rfl ⟨rfl, ?_⟩
 have hB := hb1.trans (hb2.mono hb1.size)
 exact ((((((hB.set (Nat.le_succ _) 0 _).set (Nat.le_succ _) 1 _).set (Nat.le_succ _) 2 _).set (Nat.le_succ _) 3 _).set (Nat.le_succ _) 4 _).alloc (by simp; omega) _).drew
set_option maxHeartbeats 1000000 in
theorem records_none (h : Value) (en tr pa mx now nid kind : Int) (mp : Nat) (nm : ByteArray) (w : World) (hM : Mem0 w mp) (hn : nm.size ≤ maxLen) (hk : (Lit.int .i64 kind).wf = true) :
  Calls Tryz.prog 255 #[wV h en tr pa mx mp now nid, .string nm, .int .i64 kind] w fun e w' => e = .returned (.slice none 0 0) ∧ Below w.heap.size w w' := by
 have hb1 : Below w.heap.size w (w.alloc (.cells #[h, .int .i64 en, .int .i64 tr, .int .i64 pa, .int .i64 mx, .pointer (some ⟨mp, 0, none⟩), .int .i64 now, .int .i64 nid] 122)) := (Below.refl _ _).alloc (Nat.le_refl _) _
 have hM1 := hM.below hb1
 go_enter Tryz.func255, Tryz.ntmps255
 go_wp2_with (go_at_call 287; refine (Live_none mp now kind nm _ hM1 hn hk).mono ?_; rintro e w1 ⟨rfl, hb2⟩)
 go_ret
 have hB := hb1.trans (hb2.mono hb1.size)
 exact ⟨rfl, hB.alloc hB.size _⟩
end Go.Proofs.YtefdokkadckbbaaGreatDoor
