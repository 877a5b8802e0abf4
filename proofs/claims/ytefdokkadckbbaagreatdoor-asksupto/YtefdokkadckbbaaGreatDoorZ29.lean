/- P2 P3 -/
import Derived.Test.YtefdokkadckbbaaGreatDoorZ23
section
namespace Go.Proofs.YtefdokkadckbbaaGreatDoor
open Go.RowKit
set_option maxRecDepth 100000
set_option maxHeartbeats 4000000 in
theorem rtell_any (x mp : Nat) (vh vt vs : Value) (en tr pa mx now nid asked : Int) (av : Option Addr) (cv : Nat) (L : List (Int × ByteArray)) (id addr code : Int) (nm : ByteArray) (ty : Int) (aa as_ am : Option Addr) (ca cs cm : Nat) (w : World)
  (hx : w.heap[x]? = some (resO vh en tr pa mx mp now nid vt asked vs (.slice av L.length cv))) (hv : w.ownsRow 0 66 2 (.slice av L.length cv) L.length (pcells L)) (hG : Good w) (h0 : x ≠ 0) (hv0 : (Value.slice av L.length cv).ownBlock ≠ some 0) (hnm : nm.size ≤ 1048576) (hL : L.length ≤ 33554432) :
  Calls Tryz.prog 67 #[.pointer (some ⟨x, 0, none⟩), .int .i64 addr, .agg #[.int .i64 id, .bool true, .int .i64 code, .string nm, .int .i64 ty, .slice aa 0 ca, .slice as_ 0 cs, .slice am 0 cm]] w fun e w' => e = .returned (.tuple #[]) ∧ ∃ g c,
   w'.heap[x]? = some (resO vh en tr pa mx mp now nid vt asked vs (.slice (some ⟨g, 0, none⟩) (L.length + 1) c)) ∧ w'.ownsRow 0 66 2 (.slice (some ⟨g, 0, none⟩) (L.length + 1) c) (L.length + 1) (pcells (L ++ [(addr, rB id code nm ty)])) ∧
   Keeps (fun k => k = x ∨ (Value.slice av L.length cv).ownBlock = some k) w w' ∧ ((Value.slice av L.length cv).ownBlock = some g ∨ w.heap.size ≤ g) := by
 obtain ⟨F, hF⟩ : ∃ F : Nat → Prop, F = fun k => k = x ∨ (Value.slice av L.length cv).ownBlock = some k := ⟨_, rfl⟩
 have lxw : x < w.heap.size := (Array.getElem?_eq_some_iff.1 hx).1
 obtain ⟨O, hO⟩ : ∃ O, O = Obj.cells #[.int .i64 id, .bool true, .int .i64 code, .string nm, .int .i64 ty, .slice aa 0 ca, .slice as_ 0 cs, .slice am 0 cm] 27 := ⟨_, rfl⟩
 have hB1 : Below w.heap.size w (w.alloc O) := (Below.refl w.heap.size w).alloc (Nat.le_refl _) O
 have hx1 := (hB1.block x lxw).trans hx
 have hne : x ≠ w.heap.size := Nat.ne_of_lt lxw
 obtain ⟨W2, hW2⟩ : ∃ W2, w.alloc O = W2 := ⟨_, rfl⟩
 have z2 : W2.heap.size = w.heap.size + 1 := by rw [← hW2]; simp
 have hb2 : W2.heap[w.heap.size]? = some O := by rw [← hW2]; exact World.alloc_heap_new w O
 have hk2 : Keeps F w W2 := by rw [← hW2]; exact keeps_of_below hB1
 have hx2' : W2.heap[x]? = some (resO vh en tr pa mx mp now nid vt asked vs (.slice av L.length cv)) := by
  rw [← hW2]; exact hx1
 have hvx : ∀ k, (Value.slice av L.length cv).ownBlock = some k → k ≠ x := fun k e => (own_far hv hx (by decide) |> fun h => by rintro rfl; exact h e.symm)
 have hv2 : W2.ownsRow 0 66 2 (.slice av L.length cv) L.length (pcells L) := own_same hv fun k e => by rw [← hW2]; exact hB1.block k (hv.lt k e).2
 have hGd : Good W2.drew := hk2.good hG (by rw [hF]; rintro (h | h); exact h0 h.symm; exact hv0 h)
 have lx : x < W2.drew.heap.size := by show x < W2.heap.size; omega
 have hx2 : W2.drew.cell? ⟨x, 11, none⟩ = some (.slice av L.length cv) := by show W2.cell? _ = _; rw [cell_blk hx2']; rfl
 have hS0 : Keeps F W2 W2.drew := (Keeps.refl _ _).drew
 have HF : ∀ w', Keeps F W2 w' → w'.cell? ⟨w.heap.size, 0, none⟩ = some (.int .i64 id) ∧ w'.cell? ⟨w.heap.size, 1, none⟩ = some (.bool true) ∧ w'.cell? ⟨w.heap.size, 2, none⟩ = some (.int .i64 code) ∧ w'.cell? ⟨w.heap.size, 3, none⟩ = some (.string nm) ∧ w'.cell? ⟨w.heap.size, 4, none⟩ = some (.int .i64 ty) ∧ w'.cell? ⟨w.heap.size, 5, none⟩ = some (.slice aa 0 ca) ∧ w'.cell? ⟨w.heap.size, 6, none⟩ = some (.slice as_ 0 cs) ∧ w'.cell? ⟨w.heap.size, 7, none⟩ = some (.slice am 0 cm) := fun w' hw => by
  have hb : w'.heap[w.heap.size]? = some O := (hw.block _ (by omega) (by rw [hF]; rintro (h | h); exact hne h.symm; have := (hv.lt _ h).2; omega)).trans hb2
  rw [hO] at hb
  exact cells8 hb
 have HEND : Hid (∀ w5 w6 o g6 c6, Below W2.drew.heap.size W2.drew w5 → w6.ownsRow 0 66 2 (.slice (some ⟨g6, 0, none⟩) (L.length + 1) c6) (L.length + 1) (pcells L ++ [.int .i64 addr, .string (rB id code nm ty)]) → Lies (w5.alloc o) w6 (.slice av L.length cv) g6 →
   w6.cell? ⟨x, 11, none⟩ = some (.slice av L.length cv) ∧ w6.frozen? ⟨x, 11, none⟩ = false ∧
   ((w6.setCell ⟨x, 11, none⟩ (.slice (some ⟨g6, 0, none⟩) (L.length + 1) c6)).heap[x]? = some (resO vh en tr pa mx mp now nid vt asked vs (.slice (some ⟨g6, 0, none⟩) (L.length + 1) c6)) ∧
    (w6.setCell ⟨x, 11, none⟩ (.slice (some ⟨g6, 0, none⟩) (L.length + 1) c6)).ownsRow 0 66 2 (.slice (some ⟨g6, 0, none⟩) (L.length + 1) c6) (L.length + 1) (pcells (L ++ [(addr, rB id code nm ty)])) ∧
    Keeps (fun k => k = x ∨ (Value.slice av L.length cv).ownBlock = some k) w (w6.setCell ⟨x, 11, none⟩ (.slice (some ⟨g6, 0, none⟩) (L.length + 1) c6)) ∧ ((Value.slice av L.length cv).ownBlock = some g6 ∨ w.heap.size ≤ g6))) := by
  intro w5 w6 o g6 c6 hb5 r6 L6
  have hz5 : W2.heap.size ≤ w5.heap.size := hb5.size
  have e5 : (w5.alloc o).heap[x]? = some (resO vh en tr pa mx mp now nid vt asked vs (.slice av L.length cv)) := (Below.heap_alloc w5 o x (by omega)).trans ((hb5.block x lx).trans hx2')
  have e6 : w6.heap[x]? = some (resO vh en tr pa mx mp now nid vt asked vs (.slice av L.length cv)) := (L6.1.block x (by simp; omega) (fun h => hvx x h.symm rfl)).trans e5
  refine ⟨by rw [cell_blk e6]; rfl, frozen_of_row _ x 11 _ 125 e6, ?_, ?_, ?_, ?_⟩
  ·have := heap_setCell_same w6 x 11 _ 125 (.slice (some ⟨g6, 0, none⟩) (L.length + 1) c6) e6
   simpa using this
  ·rw [pcells_snoc]
   refine own_same r6 fun k e => Below.heap_setCell _ _ _ _ ?_
   rintro rfl
   exact own_far r6 e6 (by decide) e.symm
  ·have : Keeps F w w6 := ((hk2.trans (hS0.below hb5)).alloc o).grown L6.1 (fun j e => .inl (by rw [hF]; exact .inr e))
   rw [hF] at this
   exact this.set (.inl (.inl rfl)) 11 _
  ·rcases L6.2.1 with h | ⟨h, _⟩
   ·exact .inl h
   ·exact .inr (by simp at h; omega)
 have hFx : F x := by rw [hF]; exact .inl rfl
 have hFv : ∀ j, (Value.slice av L.length cv).ownBlock = some j → F j := fun j e => by rw [hF]; exact .inr e
 obtain ⟨i0, hi0, hz0, hz1, hz2⟩ := info_parts infoR
 have hu63 := u63
 subst hO
 go_enter Tryz.func67, Tryz.ntmps67
 go_wp2
 refine wp_region_held_drew (S := fun w' => Keeps F W2 w') (by kernel_rfl) hS0 (fun hS => ?_)
 refine tkS (i := 0) (v := .pointer (some ⟨x, 0, none⟩)) rfl hS ?_
 refine tkS (i := 1) (v := .pointer (some ⟨x, 0, none⟩)) rfl hS ?_
 refine tkS (i := 2) (v := .pointer (some ⟨x, 0, none⟩)) rfl hS ?_
 refine tkS (i := 3) (v := .pointer (some ⟨x, 11, none⟩)) rfl hS ?_
 refine tkS (i := 5) (v := .int .i64 addr) rfl hS ?_
 refine tkY (i := 6) (v := .agg #[.int .i64 id, .bool true, .int .i64 code, .string nm, .int .i64 ty, .slice aa 0 ca, .slice as_ 0 cs, .slice am 0 cm]) rfl (Or.inl ⟨by rfl, fun w' hw => by obtain ⟨h0, h1, h2, h3, h4, h5, h6, h7⟩ := HF w' hw; go_simp⟩) hS ?_
 refine wpAnyH_ready (rs := [4, 7]) (by kernel_rfl) (by simp) ?_
 refine AllReadyH.cons rfl (fun K hK => ?_) (AllReadyH.cons rfl (fun K hK => ?_) AllReadyH.nil)
 ·go_simp
  refine hK.out _ _ hS fun hS => ?_
  refine wpAnyH_ready (rs := [7]) (by kernel_rfl) (by simp) ?_
  refine AllReadyH.cons rfl (fun K hK => ?_) AllReadyH.nil
  go_simp
  refine (bytesOf_r id code nm ty aa as_ am ca cs cm _ hGd hnm).mono ?_
  rintro e w5 ⟨rfl, hb5⟩
  have hS5 : Keeps F W2 w5 := hS0.below hb5
  have hx5 : w5.cell? ⟨x, 11, none⟩ = some (.slice av L.length cv) := (hb5.cell (p := ⟨x, 11, none⟩) lx).trans hx2
  have hx6 : ∀ o, (w5.alloc o).cell? ⟨x, 11, none⟩ = some (.slice av L.length cv) := fun o => (((Below.refl _ w5).alloc (Nat.le_refl _) o).cell (p := ⟨x, 11, none⟩) (Nat.lt_of_lt_of_le lx hb5.size)).trans hx5
  refine hK.out _ _ hS5 fun hS => ?_
  refine tkS (i := 8) (v := .agg #[.int .i64 addr, .string (rB id code nm ty)]) rfl hS ?_
  refine wpAnyH_ready (rs := [9]) (by kernel_rfl) (by simp) ?_
  refine AllReadyH.cons rfl (fun K hK => ?_) AllReadyH.nil
  go_simp
  refine hK.out _ _ (hS5.alloc _) fun hS => ?_
  refine wpAnyH_ready (rs := [10]) (by kernel_rfl) (by simp) ?_
  refine AllReadyH.cons rfl (fun K hK => ?_) AllReadyH.nil
  refine step_append_two _ rfl _ _ 63 rfl 0 66 i0 (.agg #[.int .i64 0, .string ByteArray.empty]) 2 24 hu63 hi0 hz0 hz1 hz2 rfl (.slice av L.length cv) _ _ rfl (own_same hv2 (fun k e => (Below.heap_alloc w5 _ k (Nat.lt_of_lt_of_le (hv2.lt k e).2 hb5.size)).trans (hb5.block k (hv2.lt k e).2))) ⟨w5.heap.size, 0, none⟩ 1 1 [.int .i64 addr, .string (rB id code nm ty)] rfl rfl (World.news_of_block (Go.heap_alloc_new _ _)) (by intro u hu; simp at hu; rcases hu with rfl | rfl <;> rfl) (by decide) (room24 _ hL).1 (room24 _ hL).2 (Nat.zero_le _) ?_
  intro g6 c6 w6 r6 o6 L6
  have hS6 : Keeps F W2 w6 := (hS5.alloc _).grown L6.1 (fun j e => .inl (hFv j e))
  have HE := HEND.out w5 w6 _ g6 c6 hb5 r6 L6
  clear r6 o6 L6
  obtain ⟨ee, ef, ex⟩ := HE
  refine hK.out _ _ hS6 fun hS => ?_
  refine tkS (i := 11) (v := .pointer (some ⟨x, 0, none⟩)) rfl hS ?_
  refine tkS (i := 12) (v := .pointer (some ⟨x, 11, none⟩)) rfl hS ?_
  refine wpAnyH_ready (rs := [13]) (by kernel_rfl) (by simp) ?_
  refine AllReadyH.cons rfl (fun K hK => ?_) AllReadyH.nil
  go_simp
  refine hK.out _ _ (hS6.set (.inl hFx) 11 _) fun hS => ?_
  refine wpAnyH_done (by kernel_rfl) ?_ _
  go_end0
  exact ⟨rfl, g6, c6, ex⟩
 ·go_simp
  refine (bytesOf_r id code nm ty aa as_ am ca cs cm _ hGd hnm).mono ?_
  rintro e w5 ⟨rfl, hb5⟩
  have hS5 : Keeps F W2 w5 := hS0.below hb5
  have hx5 : w5.cell? ⟨x, 11, none⟩ = some (.slice av L.length cv) := (hb5.cell (p := ⟨x, 11, none⟩) lx).trans hx2
  have hx6 : ∀ o, (w5.alloc o).cell? ⟨x, 11, none⟩ = some (.slice av L.length cv) := fun o => (((Below.refl _ w5).alloc (Nat.le_refl _) o).cell (p := ⟨x, 11, none⟩) (Nat.lt_of_lt_of_le lx hb5.size)).trans hx5
  refine hK.out _ _ hS5 fun hS => ?_
  refine tkS (i := 8) (v := .agg #[.int .i64 addr, .string (rB id code nm ty)]) rfl hS ?_
  refine wpAnyH_ready (rs := [4, 9]) (by kernel_rfl) (by simp) ?_
  refine AllReadyH.cons rfl (fun K hK => ?_) (AllReadyH.cons rfl (fun K hK => ?_) AllReadyH.nil)
  ·go_simp
   refine hK.out _ _ hS fun hS => ?_
   refine wpAnyH_ready (rs := [9]) (by kernel_rfl) (by simp) ?_
   refine AllReadyH.cons rfl (fun K hK => ?_) AllReadyH.nil
   go_simp
   refine hK.out _ _ (hS5.alloc _) fun hS => ?_
   refine wpAnyH_ready (rs := [10]) (by kernel_rfl) (by simp) ?_
   refine AllReadyH.cons rfl (fun K hK => ?_) AllReadyH.nil
   refine step_append_two _ rfl _ _ 63 rfl 0 66 i0 (.agg #[.int .i64 0, .string ByteArray.empty]) 2 24 hu63 hi0 hz0 hz1 hz2 rfl (.slice av L.length cv) _ _ rfl (own_same hv2 (fun k e => (Below.heap_alloc w5 _ k (Nat.lt_of_lt_of_le (hv2.lt k e).2 hb5.size)).trans (hb5.block k (hv2.lt k e).2))) ⟨w5.heap.size, 0, none⟩ 1 1 [.int .i64 addr, .string (rB id code nm ty)] rfl rfl (World.news_of_block (Go.heap_alloc_new _ _)) (by intro u hu; simp at hu; rcases hu with rfl | rfl <;> rfl) (by decide) (room24 _ hL).1 (room24 _ hL).2 (Nat.zero_le _) ?_
   intro g6 c6 w6 r6 o6 L6
   have hS6 : Keeps F W2 w6 := (hS5.alloc _).grown L6.1 (fun j e => .inl (hFv j e))
   have HE := HEND.out w5 w6 _ g6 c6 hb5 r6 L6
   clear r6 o6 L6
   obtain ⟨ee, ef, ex⟩ := HE
   refine hK.out _ _ hS6 fun hS => ?_
   refine tkS (i := 11) (v := .pointer (some ⟨x, 0, none⟩)) rfl hS ?_
   refine tkS (i := 12) (v := .pointer (some ⟨x, 11, none⟩)) rfl hS ?_
   refine wpAnyH_ready (rs := [13]) (by kernel_rfl) (by simp) ?_
   refine AllReadyH.cons rfl (fun K hK => ?_) AllReadyH.nil
   go_simp
   refine hK.out _ _ (hS6.set (.inl hFx) 11 _) fun hS => ?_
   refine wpAnyH_done (by kernel_rfl) ?_ _
   go_end0
   exact ⟨rfl, g6, c6, ex⟩
  ·go_simp
   refine hK.out _ _ (hS5.alloc _) fun hS => ?_
   refine wpAnyH_ready (rs := [4]) (by kernel_rfl) (by simp) ?_
   refine AllReadyH.cons rfl (fun K hK => ?_) AllReadyH.nil
   go_simp
   refine hK.out _ _ hS fun hS => ?_
   refine wpAnyH_ready (rs := [10]) (by kernel_rfl) (by simp) ?_
   refine AllReadyH.cons rfl (fun K hK => ?_) AllReadyH.nil
   refine step_append_two _ rfl _ _ 63 rfl 0 66 i0 (.agg #[.int .i64 0, .string ByteArray.empty]) 2 24 hu63 hi0 hz0 hz1 hz2 rfl (.slice av L.length cv) _ _ rfl (own_same hv2 (fun k e => (Below.heap_alloc w5 _ k (Nat.lt_of_lt_of_le (hv2.lt k e).2 hb5.size)).trans (hb5.block k (hv2.lt k e).2))) ⟨w5.heap.size, 0, none⟩ 1 1 [.int .i64 addr, .string (rB id code nm ty)] rfl rfl (World.news_of_block (Go.heap_alloc_new _ _)) (by intro u hu; simp at hu; rcases hu with rfl | rfl <;> rfl) (by decide) (room24 _ hL).1 (room24 _ hL).2 (Nat.zero_le _) ?_
   intro g6 c6 w6 r6 o6 L6
   have hS6 : Keeps F W2 w6 := (hS5.alloc _).grown L6.1 (fun j e => .inl (hFv j e))
   have HE := HEND.out w5 w6 _ g6 c6 hb5 r6 L6
   clear r6 o6 L6
   obtain ⟨ee, ef, ex⟩ := HE
   refine hK.out _ _ hS6 fun hS => ?_
   refine tkS (i := 11) (v := .pointer (some ⟨x, 0, none⟩)) rfl hS ?_
   refine tkS (i := 12) (v := .pointer (some ⟨x, 11, none⟩)) rfl hS ?_
   refine wpAnyH_ready (rs := [13]) (by kernel_rfl) (by simp) ?_
   refine AllReadyH.cons rfl (fun K hK => ?_) AllReadyH.nil
   go_simp
   refine hK.out _ _ (hS6.set (.inl hFx) 11 _) fun hS => ?_
   refine wpAnyH_done (by kernel_rfl) ?_ _
   go_end0
   exact ⟨rfl, g6, c6, ex⟩
end Go.Proofs.YtefdokkadckbbaaGreatDoor
end
section
namespace Go.Proofs.YtefdokkadckbbaaGreatDoor
open Go.RowKit Go.MapKept Go.Maps
set_option maxRecDepth 100000
set_option maxHeartbeats 1000000 in
theorem newGoal_any (nm : ByteArray) (ty : Int) (w : World) :
  Calls Tryz.prog 111 #[.string nm, .int .i64 ty] w fun e w' => e = .returned (.pointer (some ⟨w.heap.size + 1, 0, none⟩)) ∧ w' = (w.alloc (.map #[] 0)).alloc (.cells #[.string nm, .string nm, .int .i64 ty, .slice none 0 0, .map (some w.heap.size), .slice none 0 0] 243) := by
 have hmk : (Instr.makeMap 240 none).run Tryz.prog w = .ok (.map (some w.heap.size)) (w.alloc (.map #[] 0)) := rfl
 go_enter Tryz.func111, Tryz.ntmps111
 go_wp2
 go_ret
 exact ⟨rfl, rfl⟩
set_option maxHeartbeats 1000000 in
theorem begin_any (num id : Int) (nm : ByteArray) (ty : Int) (aa as_ am : Option Addr) (ca cs cm : Nat) (w : World) :
  Calls Tryz.prog 66 #[.int .i64 num, .agg #[.int .i64 id, .bool false, .int .i64 0, .string nm, .int .i64 ty, .slice aa 0 ca, .slice as_ 0 cs, .slice am 0 cm]] w fun e w' => ∃ b : Tb, e = .returned (.pointer (some ⟨b.tb, 0, none⟩)) ∧ PTk w' b ⟨num, id, nm, ty, fun _ => 0, 0, 0⟩ ∧ Below w.heap.size w w' ∧ w.heap.size ≤ b.tb ∧ w.heap.size ≤ b.gb ∧ w.heap.size ≤ b.g ∧ w.heap.size ≤ b.m := by
 go_enter Tryz.func66, Tryz.ntmps66
 go_wp2_with (go_at_call 111; refine (newGoal_any nm ty _).mono ?_; rintro e w1 ⟨rfl, rfl⟩)
 go_ret
 obtain ⟨X, hX, x0, x1, x2, x3, x4, x5, x6⟩ := allocs5 w (.cells #[.int .i64 id, .bool false, .int .i64 0, .string nm, .int .i64 ty, .slice aa 0 ca, .slice as_ 0 cs, .slice am 0 cm] 27) (.map #[] 0) (.cells #[.string nm, .string nm, .int .i64 ty, .slice none 0 0, .map (some (w.heap.size + 1)), .slice none 0 0] 243) (.cells #[.pointer (some ⟨w.heap.size + 1 + 1, 0, none⟩)] 197)
  (.cells #[.int .i64 num, .int .i64 id, .bool false, .int .i64 0, .string nm, .int .i64 ty, .slice aa 0 ca, .slice as_ 0 cs, .slice am 0 cm, .slice (some ⟨w.heap.size + 1 + 1 + 1, 0, none⟩) 1 1, .int .i64 0, .string ⟨#[]⟩, .int .i64 0, .string ⟨#[]⟩, .int .i64 0, .int .i64 0, .int .i64 0] 186)
 refine ⟨⟨w.heap.size + 4, w.heap.size + 3, w.heap.size + 2, w.heap.size + 1⟩, rfl, ?_⟩
 refine (show _ ∧ _ from ?_)
 have e : X = _ := hX
 rw [← e]
 exact ⟨⟨⟨aa, as_, am, ca, cs, cm, 1, _, _, _, _, _, x4⟩, ⟨_, x3, rfl⟩, x2, ⟨_, MapIs.made x1, fun a _ => rfl⟩⟩, x6, Nat.le_add_right _ _, Nat.le_add_right _ _, Nat.le_add_right _ _, Nat.le_add_right _ _⟩
set_option maxHeartbeats 1000000 in
theorem waited_any (b : Tb) (t : Tk) (now : Int) (w : World) (h : PTk w b t) (hn : -4611686018427387904 ≤ now - t.at_ ∧ now - t.at_ ≤ 4611686018427387904) :
  Calls Tryz.prog 99 #[.pointer (some ⟨b.tb, 0, none⟩), .int .i64 now] w fun e w' => e = .returned (.int .i64 (now - t.at_)) ∧ w' = w := by
 obtain ⟨⟨aa, as_, am, ca, cs, cm, gc, wn, wt, wz, wi, wa, q1⟩, _⟩ := h
 have c : w.cell? ⟨b.tb, 14, none⟩ = some (.int .i64 t.at_) := by rw [cell_blk q1]; rfl
 have hw : IntKind.i64.wrap (now - t.at_) = now - t.at_ := by rw [IntKind.wrap_i64]; omega
 go_enter Tryz.func99, Tryz.ntmps99
 go_wp2
 go_ret
 exact ⟨rfl, rfl⟩
end Go.Proofs.YtefdokkadckbbaaGreatDoor
end
