/- Written, the walk. -/
import Derived.Test.YtefdokkadckbbaaDoorV4
namespace Go.Proofs.YtefdokkadckbbaaDoor
open Go.RowKit
set_option maxRecDepth 100000

def K4 (g : Nat) (v0 v1 v2 v3 : Value) (w : World) : Prop := w.cell? ⟨g, 0, none⟩ = some v0 ∧ w.cell? ⟨g, 1, none⟩ = some v1 ∧ w.cell? ⟨g, 2, none⟩ = some v2 ∧ w.cell? ⟨g, 3, none⟩ = some v3
theorem k4_below {g : Nat} {v0 v1 v2 v3 : Value} {wA wB : World} (hg : g < wA.heap.size) (h : K4 g v0 v1 v2 v3 wA) (hb : Below wA.heap.size wA wB) : K4 g v0 v1 v2 v3 wB := by
  unfold K4 at *
  simp only [hb.cell (p := ⟨g, _, none⟩) hg]
  exact h
theorem keepF4 {g P : Nat} {W0 wA : World} {v0 v1 v2 v3 u0 u1 u2 u3 u4 u5 u6 u7 : Value} (hg : g < W0.heap.size) (hP : W0.heap.size ≤ P) (h : K4 g v0 v1 v2 v3 wA) : K4 g v0 v1 v2 v3 (fill8 P u0 u1 u2 u3 u4 u5 u6 u7 wA) := by
  have hc : ∀ i, (fill8 P u0 u1 u2 u3 u4 u5 u6 u7 wA).cell? ⟨g, i, none⟩ = wA.cell? ⟨g, i, none⟩ := fun i => World.cell?_of_block (w := wA) (a := ⟨g, i, none⟩) (fill8_other (by show g ≠ P; omega))
  unfold K4 at *
  simp only [hc]
  exact h
/-- Where the lie lies as a message. -/
def WCut (w : World) (id cd ty : Int) (nm : ByteArray) (s : Value) (wc : World) : Prop :=
  ∃ (P : Nat) (va vs vm : Value) (la ls lm : List Rec), s = .pointer (some ⟨P, 0, none⟩) ∧ wc.heap[P]? = some (.cells #[.int .i64 id, .bool true, .int .i64 cd, .string nm, .int .i64 ty, va, vs, vm] 27 (0, 0)) ∧
    MsgV wc ⟨id, true, cd, nm, ty, la, ls, lm⟩ va vs vm ∧ la.all recOk = true ∧ ls.all recOk = true ∧ lm.all recOk = true ∧ la.length + ls.length + lm.length ≤ 6 ∧ Below w.heap.size w wc
theorem wcut_i {w W w3 : World} {P : Nat} {id cd ty : Int} {nm : ByteArray} {va vs vm : Value} {la ls lm : List Rec} (hW : boxS8 P W) (hB : Below w.heap.size w W) (hwP : w.heap.size ≤ P) (ra : w3.ownsRow W.heap.size 40 5 va la.length (rcells la)) (rs : w3.ownsRow W.heap.size 40 5 vs ls.length (rcells ls)) (rm : w3.ownsRow W.heap.size 40 5 vm lm.length (rcells lm))
    (oa : la.all recOk = true) (os : ls.all recOk = true) (om : lm.all recOk = true) (h6 : la.length + ls.length + lm.length ≤ 6) (hb3 : Below W.heap.size W w3) : WCut w id cd ty nm (.pointer (some ⟨P, 0, none⟩)) (fill8 P (.int .i64 id) (.bool true) (.int .i64 cd) (.string nm) (.int .i64 ty) va vs vm w3) := by
  have hPl : P < W.heap.size := (Array.getElem?_eq_some_iff.1 hW).1
  have h3 : boxS8 P w3 := by unfold boxS8; rw [hb3.block P hPl]; exact hW
  have hrow : ∀ {v : Value} {l : List Rec}, w3.ownsRow W.heap.size 40 5 v l.length (rcells l) → RecSl (fill8 P (.int .i64 id) (.bool true) (.int .i64 cd) (.string nm) (.int .i64 ty) va vs vm w3) v l := fun h => row_recs (fill_row (R := P) (own_lower h hPl) (Nat.le_refl P))
  exact ⟨P, va, vs, vm, la, ls, lm, rfl, fill8_heap h3, ⟨hrow ra, hrow rs, hrow rm⟩, oa, os, om, h6, below_fill (hB.trans (hb3.mono hB.size)) hwP⟩
theorem wcut_ii {w W w3 : World} {id cd ty : Int} {nm : ByteArray} {va vs vm : Value} {la ls lm : List Rec} (hB : Below w.heap.size w W) (ra : w3.ownsRow W.heap.size 40 5 va la.length (rcells la)) (rs : w3.ownsRow W.heap.size 40 5 vs ls.length (rcells ls)) (rm : w3.ownsRow W.heap.size 40 5 vm lm.length (rcells lm))
    (oa : la.all recOk = true) (os : ls.all recOk = true) (om : lm.all recOk = true) (h6 : la.length + ls.length + lm.length ≤ 6) (hb3 : Below W.heap.size W w3) : WCut w id cd ty nm (.pointer (some ⟨w3.heap.size, 0, none⟩)) (w3.alloc (.cells #[.int .i64 id, .bool true, .int .i64 cd, .string nm, .int .i64 ty, va, vs, vm] 27)) :=
  ⟨w3.heap.size, va, vs, vm, la, ls, lm, rfl, Go.heap_alloc_new _ _, ⟨row_recs (ra.alloc _), row_recs (rs.alloc _), row_recs (rm.alloc _)⟩, oa, os, om, h6, (hB.trans (hb3.mono hB.size)).alloc (Nat.le_trans hB.size hb3.size) _⟩
theorem rec_below {ar : Option Addr} {nr : Nat} {w w' : World} (h : ∀ j, j < nr → ∃ g o z, ar = some ⟨g, o, none⟩ ∧ g < w.heap.size ∧ w.cell? ⟨g, o + j, none⟩ = some (.int .i64 z) ∧ I64 z) (hb : Below w.heap.size w w') :
    ∀ j, j < nr → ∃ g o z, ar = some ⟨g, o, none⟩ ∧ g < w'.heap.size ∧ w'.cell? ⟨g, o + j, none⟩ = some (.int .i64 z) ∧ I64 z := fun j hj => by
  obtain ⟨g, o, z, h1, h2, h3, h4⟩ := h j hj
  exact ⟨g, o, z, h1, Nat.lt_of_lt_of_le h2 hb.size, (hb.cell (p := ⟨g, o + j, none⟩) h2).trans h3, h4⟩
theorem zbox {W0 w3 : World} (hb : Below ((W0.alloc (.cells #[.int .i64 0, .bool false, .int .i64 0, .string ⟨#[]⟩, .int .i64 0, .slice none 0 0, .slice none 0 0, .slice none 0 0] 27)).drew).heap.size ((W0.alloc (.cells #[.int .i64 0, .bool false, .int .i64 0, .string ⟨#[]⟩, .int .i64 0, .slice none 0 0, .slice none 0 0, .slice none 0 0] 27)).drew) w3) : boxS8 W0.heap.size w3 :=
  blk_below (w := (W0.alloc (.cells #[.int .i64 0, .bool false, .int .i64 0, .string ⟨#[]⟩, .int .i64 0, .slice none 0 0, .slice none 0 0, .slice none 0 0] 27)).drew) (Go.heap_alloc_new W0 _) hb
def xa : ByteArray := ⟨#[120, 46, 97]⟩
theorem xa_ok : nameOk (tl xa) = true := by decide

set_option maxHeartbeats 4000000 in
theorem Written_any (code which many : Int) (ar : Option Addr) (nr cr : Nat) (s : ByteArray) (cut : Int) (w : World) (hG : Good w) (hc : I64 code) (hw : I64 which) (hm : I64 many) (hcut : I64 cut)
    (hrec : ∀ j, j < nr → ∃ g o z, ar = some ⟨g, o, none⟩ ∧ g < w.heap.size ∧ w.cell? ⟨g, o + j, none⟩ = some (.int .i64 z) ∧ I64 z) (hsz : s.size ≤ 9223372036854775807) :
    Calls Tryd.prog 3 #[.agg #[.int .i64 code, .int .i64 which, .int .i64 many, .slice ar nr cr], .string s, .int .i64 cut] w fun e w' => e = .returned (.bool true) ∧ Below w.heap.size w w' := by
  obtain ⟨p1, hp1, lp1⟩ := pick_nat many 65536 (by decide)
  obtain ⟨p2, hp2, lp2⟩ := pick_nat which 4 (by decide)
  obtain ⟨cd, hcd, lcd⟩ := pick_nat code 4 (by decide)
  have HP1 : Hid (pickZ many 65536 = p1) := hp1
  have HP2 : Hid (pickZ which 4 = p2) := hp2
  have HCD : Hid (pickZ code 4 = cd) := hcd
  have HR : Hid (∀ j, j < nr → ∃ g o z, ar = some ⟨g, o, none⟩ ∧ g < w.heap.size ∧ w.cell? ⟨g, o + j, none⟩ = some (.int .i64 z) ∧ I64 z) := hrec
  clear hp1 hp2 hcd hrec
  have hs2 : IntKind.i64.wrap (1 + (p2 : Int)) = 1 + (p2 : Int) := Go.IntWalk.i64_in _ (by omega)
  obtain ⟨W0, hW0⟩ : ∃ W0, W0 = w.alloc (.cells #[.int .i64 code, .int .i64 which, .int .i64 many, .slice ar nr cr] 24) := ⟨_, rfl⟩
  have hB0 : Below w.heap.size w W0 := by rw [hW0]; exact keepA _ _
  have hk0 : W0.heap[w.heap.size]? = some (.cells #[.int .i64 code, .int .i64 which, .int .i64 many, .slice ar nr cr] 24 (0, 0)) := by rw [hW0]; exact Go.heap_alloc_new _ _
  have c0 : W0.cell? ⟨w.heap.size, 0, none⟩ = some (.int .i64 code) := by rw [cellB hk0]; rfl
  have c1 : W0.cell? ⟨w.heap.size, 1, none⟩ = some (.int .i64 which) := by rw [cellB hk0]; rfl
  have c2 : W0.cell? ⟨w.heap.size, 2, none⟩ = some (.int .i64 many) := by rw [cellB hk0]; rfl
  have c3 : W0.cell? ⟨w.heap.size, 3, none⟩ = some (.slice ar nr cr) := by rw [cellB hk0]; rfl
  have hgl : w.heap.size < W0.heap.size := (Array.getElem?_eq_some_iff.1 hk0).1
  go_enter Tryd.func3, Tryd.ntmps3
  go_wp2
  rw [← hW0]
  clear hW0 hk0
  have hBr : Below W0.heap.size W0 W0 := Below.refl _ _
  have hBd : Below W0.heap.size W0 W0.drew := (Below.refl _ _).drew
  have hS0 : K4 w.heap.size (.int .i64 code) (.int .i64 which) (.int .i64 many) (.slice ar nr cr) W0.drew := ⟨c0, c1, c2, c3⟩
  have HBD : Below w.heap.size w W0.drew := hB0.drew
  have HBA : Below w.heap.size w (W0.alloc (.cells #[.int .i64 0, .bool false, .int .i64 0, .string ⟨#[]⟩, .int .i64 0, .slice none 0 0, .slice none 0 0, .slice none 0 0] 27)).drew := (hB0.alloc hB0.size _).drew
  have hSA : K4 w.heap.size (.int .i64 code) (.int .i64 which) (.int .i64 many) (.slice ar nr cr) (W0.alloc (.cells #[.int .i64 0, .bool false, .int .i64 0, .string ⟨#[]⟩, .int .i64 0, .slice none 0 0, .slice none 0 0, .slice none 0 0] 27)).drew := k4_below hgl (show K4 w.heap.size _ _ _ _ W0 from ⟨c0, c1, c2, c3⟩) (keepA W0 _).drew
  have hglD : w.heap.size < W0.drew.heap.size := hgl
  have hglA : w.heap.size < ((W0.alloc (.cells #[.int .i64 0, .bool false, .int .i64 0, .string ⟨#[]⟩, .int .i64 0, .slice none 0 0, .slice none 0 0, .slice none 0 0] 27)).drew).heap.size := by show w.heap.size < (W0.alloc _).heap.size; rw [World.size_alloc]; omega
  clear hBr hBd
  go_cut [7] (fun s wc => WCut w (p1 : Int) (cd : Int) (1 + (p2 : Int)) xa s wc)
  case first =>
    refine wp_region_held_drew (S := fun w' => w'.cell? ⟨w.heap.size, 0, none⟩ = some (.int .i64 code) ∧ w'.cell? ⟨w.heap.size, 1, none⟩ = some (.int .i64 which) ∧ w'.cell? ⟨w.heap.size, 2, none⟩ = some (.int .i64 many) ∧ w'.cell? ⟨w.heap.size, 3, none⟩ = some (.slice ar nr cr)) (by kernel_rfl) hS0 (fun hS => ?_)
    refine wpAnyH_take (i := 0) (v := .agg #[.int .i64 code, .int .i64 which, .int .i64 many, .slice ar nr cr]) rfl (by kernel_rfl) (by kernel_rfl) (by kernel_rfl) (fun _ _ _ h => h) (Or.inl ⟨by rfl, fun w hw => by obtain ⟨h0, h1, h2, h3⟩ := hw; go_simp⟩) hS ?_
    refine wpAnyH_take (i := 1) (v := .pointer (some ⟨w.heap.size, 2, none⟩)) rfl (by kernel_rfl) (by kernel_rfl) (by kernel_rfl) (fun _ _ _ h => h) (Or.inl ⟨by rfl, fun w hw => by obtain ⟨h0, h1, h2, h3⟩ := hw; go_simp⟩) hS ?_
    refine wpAnyH_take (i := 2) (v := .int .i64 many) rfl (by kernel_rfl) (by kernel_rfl) (by kernel_rfl) (fun _ _ _ h => h) (Or.inl ⟨by rfl, fun w hw => by obtain ⟨h0, h1, h2, h3⟩ := hw; go_simp⟩) hS ?_
    refine wpAnyH_take (i := 4) (v := .pointer (some ⟨w.heap.size, 1, none⟩)) rfl (by kernel_rfl) (by kernel_rfl) (by kernel_rfl) (fun _ _ _ h => h) (Or.inl ⟨by rfl, fun w hw => by obtain ⟨h0, h1, h2, h3⟩ := hw; go_simp⟩) hS ?_
    refine wpAnyH_take (i := 5) (v := .int .i64 which) rfl (by kernel_rfl) (by kernel_rfl) (by kernel_rfl) (fun _ _ _ h => h) (Or.inl ⟨by rfl, fun w hw => by obtain ⟨h0, h1, h2, h3⟩ := hw; go_simp⟩) hS ?_
    refine wpAnyH_ready (rs := [3, 10]) (by kernel_rfl) (by simp) ?_
    refine AllReadyH.cons rfl (fun K hK => ?_) (AllReadyH.cons rfl (fun K hK => ?_) AllReadyH.nil)
    · go_simp
      refine (pick_is many 65536 p1 _ hm (by decide) HP1.out).mono ?_
      rintro e w1 ⟨rfl, rfl⟩
      refine hK.out _ _ hS fun hS => ?_
      refine wpAnyH_ready (rs := [6, 10]) (by kernel_rfl) (by simp) ?_
      refine AllReadyH.cons rfl (fun K hK => ?_) (AllReadyH.cons rfl (fun K hK => ?_) AllReadyH.nil)
      · go_simp
        refine (pick_is which 4 p2 _ hw (by decide) HP2.out).mono ?_
        rintro e w1 ⟨rfl, rfl⟩
        refine hK.out _ _ hS fun hS => ?_
        refine wpAnyH_take (i := 7) (v := .int .i64 (1 + (p2 : Int))) rfl (by kernel_rfl) (by kernel_rfl) (by kernel_rfl) (fun _ _ _ h => h) (Or.inl ⟨by rfl, fun w hw => by obtain ⟨h0, h1, h2, h3⟩ := hw; go_simp⟩) hS ?_
        refine wpAnyH_take (i := 8) (v := .agg #[.int .i64 (p1 : Int), .bool false, .int .i64 0, .string ⟨#[120, 46, 97]⟩, .int .i64 (1 + (p2 : Int)), .slice none 0 0, .slice none 0 0, .slice none 0 0]) rfl (by kernel_rfl) (by kernel_rfl) (by kernel_rfl) (fun _ _ _ h => h) (Or.inl ⟨by rfl, fun w hw => by obtain ⟨h0, h1, h2, h3⟩ := hw; go_simp⟩) hS ?_
        refine wpAnyH_ready (rs := [9, 10]) (by kernel_rfl) (by simp) ?_
        refine AllReadyH.cons rfl (fun K hK => ?_) (AllReadyH.cons rfl (fun K hK => ?_) AllReadyH.nil)
        · go_simp
          refine (lying_any code which many ar nr cr _ _ _ _ hc (rec_below HR.out HBD) xa_ok).mono ?_
          rw [HCD.out]
          rintro e w3 ⟨va, vs, vm, la, ls, lm, rfl, ra, rs, rm, oa, os, om, h6, hb3⟩
          have hS3 := k4_below hglD hS hb3
          obtain ⟨aa, ca, rfl⟩ := own_shape ra
          obtain ⟨as_, cs, rfl⟩ := own_shape rs
          obtain ⟨am, cm, rfl⟩ := own_shape rm
          refine hK.out _ _ hS3 fun hS => ?_
          refine wpAnyH_ready (rs := [10]) (by kernel_rfl) (by simp) ?_
          refine AllReadyH.cons rfl (fun K hK => ?_) AllReadyH.nil
          go_simp
          refine hK.out _ _ (k4_below (Nat.lt_of_lt_of_le hglD hb3.size) hS3 (keepA _ _)) fun hS => ?_
          refine wpAnyH_ready (rs := [11]) (by kernel_rfl) (by simp) ?_
          refine AllReadyH.cons rfl (fun K hK => ?_) AllReadyH.nil
          go_simp
          refine hK.out _ _ (k4_below (Nat.lt_of_lt_of_le hglD hb3.size) hS3 (keepA _ _)) fun hS => ?_
          refine wpAnyH_done (by kernel_rfl) ?_ _
          go_wp2_with fail
          go_meet
          exact wcut_ii (W := W0.drew) HBD ra rs rm oa os om h6 hb3
        · go_simp
          refine hK.out _ _ hSA fun hS => ?_
          refine wpAnyH_ready (rs := [9]) (by kernel_rfl) (by simp) ?_
          refine AllReadyH.cons rfl (fun K hK => ?_) AllReadyH.nil
          go_simp
          refine (lying_any code which many ar nr cr _ _ _ _ hc (rec_below HR.out HBA) xa_ok).mono ?_
          rw [HCD.out]
          rintro e w3 ⟨va, vs, vm, la, ls, lm, rfl, ra, rs, rm, oa, os, om, h6, hb3⟩
          have hS3 := k4_below hglA hS hb3
          have hz8 : boxS8 W0.heap.size w3 := zbox hb3
          obtain ⟨z0, z1, z2, z3, z4, z5, z6, z7⟩ := fill8_cells hz8
          have zf : ∀ k, w3.frozen? ⟨W0.heap.size, k, none⟩ = false := fun k => frozen_of_row w3 _ k _ 27 hz8
          obtain ⟨aa, ca, rfl⟩ := own_shape ra
          obtain ⟨as_, cs, rfl⟩ := own_shape rs
          obtain ⟨am, cm, rfl⟩ := own_shape rm
          refine hK.out _ _ hS3 fun hS => ?_
          refine wpAnyH_ready (rs := [11]) (by kernel_rfl) (by simp) ?_
          refine AllReadyH.cons rfl (fun K hK => ?_) AllReadyH.nil
          go_simp
          refine hK.out _ _ (keepF4 hgl (Nat.le_refl _) hS3) fun hS => ?_
          refine wpAnyH_done (by kernel_rfl) ?_ _
          go_wp2_with fail
          go_meet
          exact wcut_i (W := (W0.alloc (.cells #[.int .i64 0, .bool false, .int .i64 0, .string ⟨#[]⟩, .int .i64 0, .slice none 0 0, .slice none 0 0, .slice none 0 0] 27)).drew) (Go.heap_alloc_new W0 _) HBA hB0.size ra rs rm oa os om h6 hb3
      · go_simp
        refine hK.out _ _ hSA fun hS => ?_
        refine wpAnyH_ready (rs := [6]) (by kernel_rfl) (by simp) ?_
        refine AllReadyH.cons rfl (fun K hK => ?_) AllReadyH.nil
        go_simp
        refine (pick_is which 4 p2 _ hw (by decide) HP2.out).mono ?_
        rintro e w1 ⟨rfl, rfl⟩
        refine hK.out _ _ hS fun hS => ?_
        refine wpAnyH_take (i := 7) (v := .int .i64 (1 + (p2 : Int))) rfl (by kernel_rfl) (by kernel_rfl) (by kernel_rfl) (fun _ _ _ h => h) (Or.inl ⟨by rfl, fun w hw => by obtain ⟨h0, h1, h2, h3⟩ := hw; go_simp⟩) hS ?_
        refine wpAnyH_take (i := 8) (v := .agg #[.int .i64 (p1 : Int), .bool false, .int .i64 0, .string ⟨#[120, 46, 97]⟩, .int .i64 (1 + (p2 : Int)), .slice none 0 0, .slice none 0 0, .slice none 0 0]) rfl (by kernel_rfl) (by kernel_rfl) (by kernel_rfl) (fun _ _ _ h => h) (Or.inl ⟨by rfl, fun w hw => by obtain ⟨h0, h1, h2, h3⟩ := hw; go_simp⟩) hS ?_
        refine wpAnyH_ready (rs := [9]) (by kernel_rfl) (by simp) ?_
        refine AllReadyH.cons rfl (fun K hK => ?_) AllReadyH.nil
        go_simp
        refine (lying_any code which many ar nr cr _ _ _ _ hc (rec_below HR.out HBA) xa_ok).mono ?_
        rw [HCD.out]
        rintro e w3 ⟨va, vs, vm, la, ls, lm, rfl, ra, rs, rm, oa, os, om, h6, hb3⟩
        have hS3 := k4_below hglA hS hb3
        have hz8 : boxS8 W0.heap.size w3 := zbox hb3
        obtain ⟨z0, z1, z2, z3, z4, z5, z6, z7⟩ := fill8_cells hz8
        have zf : ∀ k, w3.frozen? ⟨W0.heap.size, k, none⟩ = false := fun k => frozen_of_row w3 _ k _ 27 hz8
        obtain ⟨aa, ca, rfl⟩ := own_shape ra
        obtain ⟨as_, cs, rfl⟩ := own_shape rs
        obtain ⟨am, cm, rfl⟩ := own_shape rm
        refine hK.out _ _ hS3 fun hS => ?_
        refine wpAnyH_ready (rs := [11]) (by kernel_rfl) (by simp) ?_
        refine AllReadyH.cons rfl (fun K hK => ?_) AllReadyH.nil
        go_simp
        refine hK.out _ _ (keepF4 hgl (Nat.le_refl _) hS3) fun hS => ?_
        refine wpAnyH_done (by kernel_rfl) ?_ _
        go_wp2_with fail
        go_meet
        exact wcut_i (W := (W0.alloc (.cells #[.int .i64 0, .bool false, .int .i64 0, .string ⟨#[]⟩, .int .i64 0, .slice none 0 0, .slice none 0 0, .slice none 0 0] 27)).drew) (Go.heap_alloc_new W0 _) HBA hB0.size ra rs rm oa os om h6 hb3
    · go_simp
      refine hK.out _ _ hSA fun hS => ?_
      refine wpAnyH_ready (rs := [3]) (by kernel_rfl) (by simp) ?_
      refine AllReadyH.cons rfl (fun K hK => ?_) AllReadyH.nil
      go_simp
      refine (pick_is many 65536 p1 _ hm (by decide) HP1.out).mono ?_
      rintro e w1 ⟨rfl, rfl⟩
      refine hK.out _ _ hS fun hS => ?_
      refine wpAnyH_ready (rs := [6]) (by kernel_rfl) (by simp) ?_
      refine AllReadyH.cons rfl (fun K hK => ?_) AllReadyH.nil
      go_simp
      refine (pick_is which 4 p2 _ hw (by decide) HP2.out).mono ?_
      rintro e w1 ⟨rfl, rfl⟩
      refine hK.out _ _ hS fun hS => ?_
      refine wpAnyH_take (i := 7) (v := .int .i64 (1 + (p2 : Int))) rfl (by kernel_rfl) (by kernel_rfl) (by kernel_rfl) (fun _ _ _ h => h) (Or.inl ⟨by rfl, fun w hw => by obtain ⟨h0, h1, h2, h3⟩ := hw; go_simp⟩) hS ?_
      refine wpAnyH_take (i := 8) (v := .agg #[.int .i64 (p1 : Int), .bool false, .int .i64 0, .string ⟨#[120, 46, 97]⟩, .int .i64 (1 + (p2 : Int)), .slice none 0 0, .slice none 0 0, .slice none 0 0]) rfl (by kernel_rfl) (by kernel_rfl) (by kernel_rfl) (fun _ _ _ h => h) (Or.inl ⟨by rfl, fun w hw => by obtain ⟨h0, h1, h2, h3⟩ := hw; go_simp⟩) hS ?_
      refine wpAnyH_ready (rs := [9]) (by kernel_rfl) (by simp) ?_
      refine AllReadyH.cons rfl (fun K hK => ?_) AllReadyH.nil
      go_simp
      refine (lying_any code which many ar nr cr _ _ _ _ hc (rec_below HR.out HBA) xa_ok).mono ?_
      rw [HCD.out]
      rintro e w3 ⟨va, vs, vm, la, ls, lm, rfl, ra, rs, rm, oa, os, om, h6, hb3⟩
      have hS3 := k4_below hglA hS hb3
      have hz8 : boxS8 W0.heap.size w3 := zbox hb3
      obtain ⟨z0, z1, z2, z3, z4, z5, z6, z7⟩ := fill8_cells hz8
      have zf : ∀ k, w3.frozen? ⟨W0.heap.size, k, none⟩ = false := fun k => frozen_of_row w3 _ k _ 27 hz8
      obtain ⟨aa, ca, rfl⟩ := own_shape ra
      obtain ⟨as_, cs, rfl⟩ := own_shape rs
      obtain ⟨am, cm, rfl⟩ := own_shape rm
      refine hK.out _ _ hS3 fun hS => ?_
      refine wpAnyH_ready (rs := [11]) (by kernel_rfl) (by simp) ?_
      refine AllReadyH.cons rfl (fun K hK => ?_) AllReadyH.nil
      go_simp
      refine hK.out _ _ (keepF4 hgl (Nat.le_refl _) hS3) fun hS => ?_
      refine wpAnyH_done (by kernel_rfl) ?_ _
      go_wp2_with fail
      go_meet
      exact wcut_i (W := (W0.alloc (.cells #[.int .i64 0, .bool false, .int .i64 0, .string ⟨#[]⟩, .int .i64 0, .slice none 0 0, .slice none 0 0, .slice none 0 0] 27)).drew) (Go.heap_alloc_new W0 _) HBA hB0.size ra rs rm oa os om h6 hb3
  case rest =>
    clear c0 c1 c2 c3 hgl hS0 HBD HBA hSA hglD hglA hB0
    obtain ⟨P, va, vs, vm, la, ls, lm, rfl, hP, hmv, oa, os, om, h6, hbc⟩ := hcut
    obtain ⟨id, hid⟩ : ∃ id : Int, id = p1 := ⟨_, rfl⟩
    obtain ⟨co, hco⟩ : ∃ co : Int, co = cd := ⟨_, rfl⟩
    obtain ⟨ty, hty⟩ : ∃ ty : Int, ty = 1 + (p2 : Int) := ⟨_, rfl⟩
    rw [← hid, ← hco, ← hty] at hP hmv
    have hok : msgOk ⟨id, true, co, xa, ty, la, ls, lm⟩ = true := lie_ok (by omega) (by omega) (by omega) xa_ok oa os om h6
    have hsh := msg_short hok h6
    clear hid hco hty oa os om h6 HP1 HP2 HCD HR lp1 lp2 lcd hs2 p1 p2 cd
    obtain ⟨T, hT⟩ : ∃ T, T = mk (msgW ⟨id, true, co, xa, ty, la, ls, lm⟩) := ⟨_, rfl⟩
    have hTl : tl T = msgW ⟨id, true, co, xa, ty, la, ls, lm⟩ := by rw [hT, tl_mk']
    have hTs : T.size ≤ 1000 := by rw [← tl_length, hTl]; exact hsh
    have hTp : 0 < T.size := by rw [← tl_length, hTl]; exact msgW_pos _
    have hdec : msgS (tl T) = some ⟨id, true, co, xa, ty, la, ls, lm⟩ := by rw [hTl]; exact msgS_msgW hok hsh
    have EN : ∀ w, Good w → MsgV w ⟨id, true, co, xa, ty, la, ls, lm⟩ va vs vm → Calls Tryd.prog 6 #[.agg #[.int .i64 id, .bool true, .int .i64 co, .string xa, .int .i64 ty, va, vs, vm]] w fun e w' => e = .returned (.tuple #[.string T, .int .i64 0]) ∧ Below w.heap.size w w' := fun w hg hv => by rw [hT]; exact enc_ok hok hg hv
    obtain ⟨q, hq, lq⟩ := pick_nat cut T.size (by omega)
    have HQ : Hid (pickZ cut T.size = q) := hq
    have hno1 : msgS (tl (T.extract 0 q)) = none := by rw [tl_cut]; exact msgS_shorter hdec (by rw [tl_length]; omega)
    have hno2 : msgS (tl (T ++ ⟨#[120]⟩)) = none := by rw [tl_more]; exact msgS_longer hdec (by simp)
    have HDEC : Hid (msgS (tl T) = some ⟨id, true, co, xa, ty, la, ls, lm⟩) := hdec
    have HN1 : Hid (msgS (tl (T.extract 0 q)) = none) := hno1
    have HN2 : Hid (msgS (tl (T ++ ⟨#[120]⟩)) = none) := hno2
    have HEN : Hid (∀ w, Good w → MsgV w ⟨id, true, co, xa, ty, la, ls, lm⟩ va vs vm → Calls Tryd.prog 6 #[.agg #[.int .i64 id, .bool true, .int .i64 co, .string xa, .int .i64 ty, va, vs, vm]] w fun e w' => e = .returned (.tuple #[.string T, .int .i64 0]) ∧ Below w.heap.size w w') := EN
    have hTi : ¬ (1000 : Int) < (T.size : Int) := by omega
    clear hT hTl hdec hq hno1 hno2 EN hsh
    obtain ⟨⟨aa, ca, rfl⟩, ⟨as_, cs, rfl⟩, ⟨am, cm, rfl⟩⟩ := hmv.shape
    simp only at hP hmv HEN
    obtain ⟨x0, x1, x2, x3, x4, x5, x6, x7⟩ := fill8_cells hP
    go_wp2_with fail
    refine (HEN.out _ (hG.below hbc) hmv).mono ?_
    rintro e w2 ⟨rfl, hb2⟩
    go_wp2_with fail
    refine (dec_yes (by omega) HDEC.out _).mono ?_
    rintro e w3 ⟨va', vs', vm', rfl, hmo, hb3⟩
    obtain ⟨⟨aa', ca', rfl⟩, ⟨as', cs', rfl⟩, ⟨am', cm', rfl⟩⟩ := hmo.shape
    have hP2 := blk_below hP hb2
    have hP3 := blk_below hP2 hb3
    have hmv3 := (hmv.below hb2).below hb3
    have hB3 : Below w.heap.size w w3 := (hbc.trans (hb2.mono hbc.size)).trans (hb3.mono (Nat.le_trans hbc.size hb2.size))
    clear hP hP2 hmv x0 x1 x2 x3 x4 x5 x6 x7 hb2 hb3 hbc
    have hpp := fun X => fill8_cells (blk_old hP3 X)
    have p0 := fun X => (hpp X).1
    have p1 := fun X => (hpp X).2.1
    have p2 := fun X => (hpp X).2.2.1
    have p3 := fun X => (hpp X).2.2.2.1
    have p4 := fun X => (hpp X).2.2.2.2.1
    have p5 := fun X => (hpp X).2.2.2.2.2.1
    have p6 := fun X => (hpp X).2.2.2.2.2.2.1
    have p7 := fun X => (hpp X).2.2.2.2.2.2.2
    clear hpp
    go_wp2_with fail
    have hA := keepA w3 (Obj.cells #[.int .i64 id, .bool true, .int .i64 co, .string xa, .int .i64 ty, .slice aa' la.length ca', .slice as' ls.length cs', .slice am' lm.length cm'] 27)
    refine (same_ok hok (hmo.v.below hA) (hmv3.below hA)).mono ?_
    rintro e w4 ⟨rfl, hb4⟩
    have hB4 : Below w.heap.size w w4 := (hB3.alloc hB3.size _).trans (hb4.mono (hB3.alloc hB3.size (Obj.cells #[.int .i64 id, .bool true, .int .i64 co, .string xa, .int .i64 ty, .slice aa' la.length ca', .slice as' ls.length cs', .slice am' lm.length cm'] 27)).size)
    have hQ4 := blk_below (Go.heap_alloc_new w3 (Obj.cells #[.int .i64 id, .bool true, .int .i64 co, .string xa, .int .i64 ty, .slice aa' la.length ca', .slice as' ls.length cs', .slice am' lm.length cm'] 27)) hb4
    have hQw : w3.heap.size < w4.heap.size := (Array.getElem?_eq_some_iff.1 hQ4).1
    have hwQ : w.heap.size ≤ w3.heap.size := hB3.size
    clear p0 p1 p2 p3 p4 p5 p6 p7 hA hb4 hmo hmv3 hP3 hB3
    generalize w3.heap.size = Q at hQ4 hQw hwQ ⊢
    clear w3
    have hqi : (0 : Int) ≤ (q : Int) := by omega
    have hqj : (q : Int) ≤ (T.size : Int) := by omega
    go_wp2_with fail
    refine (pick_to cut T.size q _ hcut (by omega) HQ.out).mono ?_
    rintro e w5 ⟨rfl, rfl⟩
    go_wp2_with fail
    refine (dec_no (by simp [ByteArray.size_extract]; omega) HN1.out _).mono ?_
    rintro e w5 ⟨rfl, hb5⟩
    have hQ5 := blk_old (blk_below hQ4 hb5) (Obj.cells #[.int .i64 0, .bool false, .int .i64 0, .string ⟨#[]⟩, .int .i64 0, .slice none 0 0, .slice none 0 0, .slice none 0 0] 27)
    have hB5 : Below w.heap.size w (w5.alloc (Obj.cells #[.int .i64 0, .bool false, .int .i64 0, .string ⟨#[]⟩, .int .i64 0, .slice none 0 0, .slice none 0 0, .slice none 0 0] 27)) := (hB4.trans (hb5.mono hB4.size)).alloc (Nat.le_trans hB4.size hb5.size) _
    unfold zMsg
    clear hQ4 hQw hB4 hb5
    go_wp2_with fail
    refine (dec_no (by rw [ByteArray.size_append]; show T.size + 1 ≤ 9223372036854775807; omega) HN2.out _).mono ?_
    rintro e w6 ⟨rfl, hb6⟩
    have hQ6 := blk_old (blk_below hQ5 hb6) (Obj.cells #[.int .i64 0, .bool false, .int .i64 0, .string ⟨#[]⟩, .int .i64 0, .slice none 0 0, .slice none 0 0, .slice none 0 0] 27)
    have hB6 : Below w.heap.size w (w6.alloc (Obj.cells #[.int .i64 0, .bool false, .int .i64 0, .string ⟨#[]⟩, .int .i64 0, .slice none 0 0, .slice none 0 0, .slice none 0 0] 27)) := (hB5.trans (hb6.mono hB5.size)).alloc (Nat.le_trans hB5.size hb6.size) _
    have hQl : Q < (w6.alloc (Obj.cells #[.int .i64 0, .bool false, .int .i64 0, .string ⟨#[]⟩, .int .i64 0, .slice none 0 0, .slice none 0 0, .slice none 0 0] 27)).heap.size := (Array.getElem?_eq_some_iff.1 hQ6).1
    unfold zMsg
    clear hQ5 hB5 hb6
    go_wp2_with fail
    generalize w6.alloc (Obj.cells #[.int .i64 0, .bool false, .int .i64 0, .string ⟨#[]⟩, .int .i64 0, .slice none 0 0, .slice none 0 0, .slice none 0 0] 27) = w7 at hQ6 hB6 hQl ⊢
    clear HN1 HN2 HEN HDEC HQ hqi hqj lq
    cases hd : msgS (tl s) with
    | none =>
      refine (dec_no hsz hd _).mono ?_
      rintro e w8 ⟨rfl, hb8⟩
      have hQ8 := blk_below hQ6 hb8
      obtain ⟨x0, x1, x2, x3, x4, x5, x6, x7⟩ := fill8_cells hQ8
      have xf : ∀ k, w8.frozen? ⟨Q, k, none⟩ = false := fun k => frozen_of_row w8 Q k _ 27 hQ8
      have hB8 : Below w.heap.size w w8 := hB6.trans (hb8.mono hB6.size)
      unfold zMsg
      clear hd hQ6 hb8 hB6 hQ8
      go_wp2
      go_ret
      exact ⟨rfl, (((((((hB8.setCell hwQ _).setCell hwQ _).setCell hwQ _).setCell hwQ _).setCell hwQ _).setCell hwQ _).setCell hwQ _).setCell hwQ _⟩
    | some m =>
      have hokm := msgS_ok hd
      refine (dec_yes hsz hd _).mono ?_
      rintro e w8 ⟨va, vs, vm, rfl, hmo, hb8⟩
      obtain ⟨⟨a0, c0, rfl⟩, ⟨a1, c1, rfl⟩, ⟨a2, c2, rfl⟩⟩ := hmo.shape
      have hQ8 := blk_below hQ6 hb8
      obtain ⟨x0, x1, x2, x3, x4, x5, x6, x7⟩ := fill8_cells hQ8
      have xf : ∀ k, w8.frozen? ⟨Q, k, none⟩ = false := fun k => frozen_of_row w8 Q k _ 27 hQ8
      have hB8 : Below w.heap.size w w8 := hB6.trans (hb8.mono hB6.size)
      have HOK : Hid (msgOk m = true) := hokm
      have HMO : Hid (MsgO w7.heap.size w8 m (.slice a0 m.answer.length c0) (.slice a1 m.servers.length c1) (.slice a2 m.more.length c2)) := hmo
      have HQ8 : Hid (w8.heap[Q]? = some (.cells #[.int .i64 id, .bool true, .int .i64 co, .string xa, .int .i64 ty, .slice aa' la.length ca', .slice as' ls.length cs', .slice am' lm.length cm'] 27 (0, 0))) := hQ8
      clear hd hQ6 hb8 hB6 hQ8 hmo hokm hok
      go_wp2_with fail
      obtain ⟨Y, hY⟩ : ∃ Y, Y = fill8 Q (.int .i64 m.id) (.bool m.reply) (.int .i64 m.code) (.string m.name) (.int .i64 m.ty) (.slice a0 m.answer.length c0) (.slice a1 m.servers.length c1) (.slice a2 m.more.length c2) w8 := ⟨_, rfl⟩
      have hvY : MsgV Y m (.slice a0 m.answer.length c0) (.slice a1 m.servers.length c1) (.slice a2 m.more.length c2) := by rw [hY]; exact HMO.out.fill hQl
      have hQY : Y.heap[Q]? = some (.cells #[.int .i64 m.id, .bool m.reply, .int .i64 m.code, .string m.name, .int .i64 m.ty, .slice a0 m.answer.length c0, .slice a1 m.servers.length c1, .slice a2 m.more.length c2] 27 (0, 0)) := by rw [hY]; exact fill8_heap HQ8.out
      have hBY : Below w.heap.size w Y := by rw [hY]; exact below_fill hB8 hwQ
      unfold fill8 at hY
      rw [← hY]
      clear hY x0 x1 x2 x3 x4 x5 x6 x7 xf HMO HQ8 hB8
      obtain ⟨T2, hT2⟩ : ∃ T2, T2 = mk (msgW m) := ⟨_, rfl⟩
      have hT2l : tl T2 = msgW m := by rw [hT2, tl_mk']
      have EN2 : Calls Tryd.prog 6 #[.agg #[.int .i64 m.id, .bool m.reply, .int .i64 m.code, .string m.name, .int .i64 m.ty, .slice a0 m.answer.length c0, .slice a1 m.servers.length c1, .slice a2 m.more.length c2]] Y fun e w' => e = .returned (.tuple #[.string T2, .int .i64 0]) ∧ Below Y.heap.size Y w' := by rw [hT2]; exact enc_ok HOK.out (hG.below hBY) hvY
      refine EN2.mono ?_
      rintro e w9 ⟨rfl, hb9⟩
      have hB9 : Below w.heap.size w w9 := hBY.trans (hb9.mono hBY.size)
      have hQ9 := blk_below hQY hb9
      have hv9 := hvY.below hb9
      clear EN2 hQY hvY hb9 hBY hT2
      by_cases hlen : T2.size ≤ 1000
      · have hd2 : msgS (tl T2) = some m := by rw [hT2l]; exact msgS_msgW HOK.out (by rw [← hT2l, tl_length]; exact hlen)
        have HD2 : Hid (msgS (tl T2) = some m) := hd2
        have hli : ¬ (1000 : Int) < (T2.size : Int) := by omega
        clear hd2 hT2l
        go_wp2_with fail
        refine (dec_yes (by omega) HD2.out _).mono ?_
        rintro e w10 ⟨va, vs, vm, rfl, hmo, hb10⟩
        obtain ⟨⟨a3, c3, rfl⟩, ⟨a4, c4, rfl⟩, ⟨a5, c5, rfl⟩⟩ := hmo.shape
        have hQ10 := blk_below hQ9 hb10
        have hv10 := hv9.below hb10
        have hB10 : Below w.heap.size w w10 := hB9.trans (hb10.mono hB9.size)
        have hpp := fun X => fill8_cells (blk_old hQ10 X)
        have p0 := fun X => (hpp X).1
        have p1 := fun X => (hpp X).2.1
        have p2 := fun X => (hpp X).2.2.1
        have p3 := fun X => (hpp X).2.2.2.1
        have p4 := fun X => (hpp X).2.2.2.2.1
        have p5 := fun X => (hpp X).2.2.2.2.2.1
        have p6 := fun X => (hpp X).2.2.2.2.2.2.1
        have p7 := fun X => (hpp X).2.2.2.2.2.2.2
        clear hpp hQ9 hv9 hB9 hb10 hQ10
        go_wp2_with fail
        have hA := keepA w10 (Obj.cells #[.int .i64 m.id, .bool m.reply, .int .i64 m.code, .string m.name, .int .i64 m.ty, .slice a3 m.answer.length c3, .slice a4 m.servers.length c4, .slice a5 m.more.length c5] 27)
        refine (same_ok HOK.out (hv10.below hA) (hmo.v.below hA)).mono ?_
        rintro e w11 ⟨rfl, hb11⟩
        have hB11 : Below w.heap.size w w11 := (hB10.alloc hB10.size _).trans (hb11.mono (hB10.alloc hB10.size (Obj.cells #[.int .i64 m.id, .bool m.reply, .int .i64 m.code, .string m.name, .int .i64 m.ty, .slice a3 m.answer.length c3, .slice a4 m.servers.length c4, .slice a5 m.more.length c5] 27)).size)
        clear p0 p1 p2 p3 p4 p5 p6 p7 hA hb11 hmo hv10 hB10
        go_wp2
        go_ret
        exact ⟨rfl, hB11⟩
      · have hli : (1000 : Int) < (T2.size : Int) := by omega
        go_wp2
        go_ret
        exact ⟨rfl, hB9⟩
end Go.Proofs.YtefdokkadckbbaaDoor
