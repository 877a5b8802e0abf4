/- Rc -/
import Derived.Test.YtefdokkadckbbaaGreatDoorZ26
namespace Go.Proofs.YtefdokkadckbbaaGreatDoor
open Go.RowKit
set_option maxRecDepth 100000
set_option maxHeartbeats 4000000 in
theorem ownA_any (W : World) (B : Nat) (c0 c1 c2 c3 c4 c7 c8 : Value) (pa ma la : Option Addr) (pc mc lc n N nx : Nat) (vs xs Lc : List Value) (box : W.heap[B]? = some (.cells #[c0, c1, c2, c3, c4, .slice pa n pc, .slice ma n mc, c7, c8, .int .i64 ((nx : Int))] 97 (0, 0))) (hps : W.ownsRow 0 63 1 (.slice pa n pc) n vs) (hpm : W.ownsRow 0 3 1 (.slice ma n mc) n xs)
  (hl : W.ownsRow 0 66 2 (.slice la N lc) N Lc) (hN : N ≤ 33554432) (hn : n ≤ 16777216) (hnx : nx ≤ 16777216) :
  Calls Tryz.prog 85 #[.pointer (some ⟨B, 1, none⟩), .slice la N lc] W fun e W' => e = .returned (.tuple #[]) ∧ ∃ gr cr gm cm g1 d1 g2 d2 g3 d3,
   W'.heap[B]? = some (.cells #[c0, c1, c2, c3, c4, .slice (some ⟨gr, 0, none⟩) (n + 4) cr, .slice (some ⟨gm, 0, none⟩) (n + 4) cm, c7, c8, .int .i64 ((nx : Int) + 1)] 97 (0, 0)) ∧ W'.ownsRow 0 63 1 (.slice (some ⟨gr, 0, none⟩) (n + 4) cr) (n + 4) (vs ++ [.slice la N lc, .slice (some ⟨g1, 0, none⟩) (N + 1) d1, .slice (some ⟨g2, 0, none⟩) (N + 2) d2, .slice (some ⟨g3, 0, none⟩) (N + 3) d3]) ∧ W'.ownsRow 0 3 1 (.slice (some ⟨gm, 0, none⟩) (n + 4) cm) (n + 4) (xs ++ [.int .i64 (-((nx : Int) + 1)), .int .i64 (-((nx : Int) + 1)), .int .i64 (-((nx : Int) + 1)), .int .i64 (-((nx : Int) + 1))]) ∧
    (MarkK W' 66 [.int .i64 (-((nx : Int) + 1)), .string ⟨#[]⟩] (.slice la N lc) N ∧ MarkK W' 66 [.int .i64 (-((nx : Int) + 1)), .string ⟨#[]⟩] (.slice (some ⟨g1, 0, none⟩) (N + 1) d1) (N + 1) ∧ MarkK W' 66 [.int .i64 (-((nx : Int) + 1)), .string ⟨#[]⟩] (.slice (some ⟨g2, 0, none⟩) (N + 2) d2) (N + 2) ∧ MarkK W' 66 [.int .i64 (-((nx : Int) + 1)), .string ⟨#[]⟩] (.slice (some ⟨g3, 0, none⟩) (N + 3) d3) (N + 3)) ∧
    Keeps (fun j => j = B ∨ (Value.slice pa n pc).ownBlock = some j ∨ (Value.slice ma n mc).ownBlock = some j ∨ (Value.slice la N lc).ownBlock = some j) W W' ∧ ((Value.slice pa n pc).ownBlock = some gr ∨ W.heap.size ≤ gr) ∧ ((Value.slice ma n mc).ownBlock = some gm ∨ W.heap.size ≤ gm) ∧ ((Value.slice la N lc).ownBlock = some g1 ∨ W.heap.size ≤ g1) ∧ ((Value.slice la N lc).ownBlock = some g2 ∨ W.heap.size ≤ g2) ∧ ((Value.slice la N lc).ownBlock = some g3 ∨ W.heap.size ≤ g3) := by
 obtain ⟨x, hx⟩ : ∃ x : Int, x = -((nx : Int) + 1) := ⟨_, rfl⟩
 rw [← hx]
 obtain ⟨i0, hi0, hz0, hz1, hz2⟩ := info_parts infoR
 obtain ⟨j0, hj0, hy0, hy1, hy2⟩ := info_parts infoAl
 obtain ⟨k0, hk0, hx0, hx1, hx2⟩ := info_parts info3
 have huL := u63
 have huLL := u92
 have hu28 := u28
 have hmo : ∀ u ∈ ([.int .i64 x, .string ⟨#[]⟩] : List Value), u.oneCell' = true := by intro u hu; simp at hu; rcases hu with rfl | rfl <;> rfl
 have HMO := hid hmo
 have hml : ([.int .i64 x, .string ⟨#[]⟩] : List Value).length = 2 := rfl
 have lB : B < W.heap.size := (Array.getElem?_eq_some_iff.1 box).1
 have b9 : W.cell? ⟨B, 9, none⟩ = some (.int .i64 (nx : Int)) := by rw [cell_blk box]; rfl
 have bf : ∀ j, W.frozen? ⟨B, j, none⟩ = false := fun j => frozen_of_row W B j _ 97 box
 obtain ⟨W1, hW1⟩ : ∃ W1, (W.setCell ⟨B, 9, none⟩ (.int .i64 ((nx : Int) + 1))).alloc (.cells #[.int .i64 (-((nx : Int) + 1)), .string ⟨#[]⟩] 66) = W1 := ⟨_, rfl⟩
 have z1 : W1.heap.size = W.heap.size + 1 := by rw [← hW1]; simp
 have hlow : ∀ j, j < W.heap.size → j ≠ B → W1.heap[j]? = W.heap[j]? := fun j hj hne => by
  rw [← hW1, Below.heap_alloc _ _ j (by simp; exact hj), Below.heap_setCell W ⟨B, 9, none⟩ _ j hne]
 have box1 : W1.heap[B]? = some (.cells #[c0, c1, c2, c3, c4, .slice pa n pc, .slice ma n mc, c7, c8, .int .i64 ((nx : Int) + 1)] 97 (0, 0)) := by
  rw [← hW1, Below.heap_alloc _ _ B (by simp; exact lB), heap_setCell_same W B 9 _ 97 _ box]
  simp
 have mrk1 : W1.heap[W.heap.size]? = some (.cells #[.int .i64 x, .string ⟨#[]⟩] 66 (0, 0)) := by
  rw [← hW1, hx]
  have := Go.heap_alloc_new (W.setCell ⟨B, 9, none⟩ (.int .i64 ((nx : Int) + 1))) (.cells #[.int .i64 (-((nx : Int) + 1)), .string ⟨#[]⟩] 66)
  rw [show (W.setCell ⟨B, 9, none⟩ (.int .i64 ((nx : Int) + 1))).heap.size = W.heap.size by simp] at this
  exact this
 have hfar1 : ∀ (v : Value) (e sz m : Nat) (ys : List Value), e ≠ 97 → W.ownsRow 0 e sz v m ys → W1.ownsRow 0 e sz v m ys := fun v e sz m ys he h => own_same h fun j ej => by
  obtain ⟨c, hc⟩ := own_blk h ej
  exact hlow j (h.lt j ej).2 (kind_ne hc box he)
 have hl1 := hfar1 _ _ _ _ _ (by decide) hl
 have hps1 := hfar1 _ _ _ _ _ (by decide) hps
 have hpm1 := hfar1 _ _ _ _ _ (by decide) hpm
 have hK1 : Keeps (fun j => j = B ∨ (Value.slice pa n pc).ownBlock = some j ∨ (Value.slice ma n mc).ownBlock = some j ∨ (Value.slice la N lc).ownBlock = some j) W W1 := by rw [← hW1]; exact ((Keeps.refl _ W).set (.inl (.inl rfl)) 9 _).alloc _
 have hneM : (Value.slice la N lc).ownBlock ≠ some W.heap.size := by intro h; have := (hl.lt _ h).2; omega
 have HX := hid hx
 have hLc : Lc.length = N * ([.int .i64 x, .string ⟨#[]⟩] : List Value).length := hl.1
 have HGR : Hid (∀ wr, W1.grownBy wr (Value.slice la N lc).ownBlock → wr.heap[B]? = some (.cells #[c0, c1, c2, c3, c4, .slice pa n pc, .slice ma n mc, c7, c8, .int .i64 ((nx : Int) + 1)] 97 (0, 0)) ∧ wr.heap[W.heap.size]? = some (.cells #[.int .i64 x, .string ⟨#[]⟩] 66 (0, 0)) ∧ wr.ownsRow 0 63 1 (.slice pa n pc) n vs ∧ wr.ownsRow 0 3 1 (.slice ma n mc) n xs ∧ Keeps (fun j => j = B ∨ (Value.slice pa n pc).ownBlock = some j ∨ (Value.slice ma n mc).ownBlock = some j ∨ (Value.slice la N lc).ownBlock = some j) W wr ∧ W.heap.size < wr.heap.size) := by
  intro wr hg
  have hf : ∀ (j : Nat) (c : Array Value) (e : TypeId), e ≠ 66 → W1.heap[j]? = some (.cells c e (0, 0)) → wr.heap[j]? = W1.heap[j]? := fun j c e he hc => hg.block j (Array.getElem?_eq_some_iff.1 hc).1 (own_far hl1 hc he.symm)
  refine ⟨(hf _ _ _ (by decide) box1).trans box1, (hg.block _ (by omega) (fun e => hneM e.symm)).trans mrk1, own_same hps1 fun j e => ?_, own_same hpm1 fun j e => ?_, hK1.grown hg (fun j e => .inl (.inr (.inr (.inr e)))), by have := hg.size; omega⟩
  ·obtain ⟨c, hc⟩ := own_blk hps1 e
   exact hf _ _ _ (by decide) hc
  ·obtain ⟨c, hc⟩ := own_blk hpm1 e
   exact hf _ _ _ (by decide) hc
 have hwM : W1.heap.size = W.heap.size + 1 := z1
 have HW1 := hid hW1
 have HZ1 := hid z1
 clear hlow box1 mrk1 hfar1 hps1 hpm1 hK1 hps hpm box lB hmo hwM hx hW1 z1 hml
 go_enter Tryz.func85, Tryz.ntmps85
 go_wp2
 go_loopw [5] (fun i wr => ∃ k : Nat, k ≤ N ∧ i = .int .i64 k ∧ W1.grownBy wr (Value.slice la N lc).ownBlock ∧ wr.ownsRow 0 66 2 (.slice la N lc) N (fillC [.int .i64 x, .string ⟨#[]⟩] Lc k)) (fun i _ => N - (intOf i).toNat)
 case atStart => exact ⟨0, Nat.zero_le _, rfl, (by rw [HW1.out]; exact grown_refl _ _), by rw [fillC_zero, HW1.out]; exact hl1⟩
 case round =>
  have z1 := HZ1.out
  obtain ⟨k, hk, rfl, hg, ho⟩ := hrel
  obtain ⟨_, hmk, _, _, _, hzr⟩ := HGR.out wr hg
  obtain ⟨m0, m1⟩ := mcellA hmk
  clear hmk
  by_cases hlt : k < N
  ·obtain ⟨g, cap, hv, hlg, hgl⟩ := ho.form (by omega)
   simp only [Value.slice.injEq, true_and] at hv
   obtain ⟨rfl, rfl⟩ := hv
   obtain ⟨cur, hcur⟩ := own_blk ho (k := g) rfl
   have HC := hid hcur
   have hcz : N * 2 ≤ cur.size := by
    obtain ⟨cur2, h1, h2⟩ := owns_block ho
    rw [hcur] at h1
    simp at h1
    subst h1
    obtain ⟨_, ⟨h3, _⟩ | ⟨g', cap', cur', hv, _, _, hnc, _⟩⟩ := ho
    ·cases h3
    ·simp at hv
     obtain ⟨rfl, rfl⟩ := hv
     rw [h2]; exact Nat.mul_le_mul_right 2 hnc
   clear hcur
   go_wp2_with (refine wpList_storeG rfl 66 (.tmp 31) (.tmp 30) rfl g (k * 2) #[.int .i64 x, .string ⟨#[]⟩] rfl rfl cur 66 HC.out (by simp; omega) size66 HMO.out ?_)
   intro w2 hw2 hg2
   have ho2 := own_fill ho hlt HC.out hw2
   clear hw2
   go_wp2
   go_roundw
   case rel => exact ⟨k + 1, hlt, by go_num, grown_trans hg hg2, ho2⟩
   case measure => simp [intOf]; omega
  ·obtain rfl : N = k := by omega
   rw [fillC_all _ _ hLc] at ho
   have hmo := HMO.out
   clear hlt
   go_wp2_with (first
    | (at_builtin; refine wpList_append_two _ rfl _ _ 63 rfl 0 66 i0 (.agg #[.int .i64 0, .string ByteArray.empty]) 2 24 huL hi0 hz0 hz1 hz2 rfl _ _ _ rfl (ho.alloc _) ⟨wr.heap.size, 0, none⟩ 1 1 (mks [.int .i64 x, .string ⟨#[]⟩] 1) rfl rfl (World.news_of_block (Go.heap_alloc_new _ _)) (mks_cell hmo 1) (by decide) (by unfold maxLen; omega) (by omega) (Nat.zero_le _) ?_))
   intro g1 d1 w1 r1 o1 A1
   rw [← mks_add] at r1
   have hg1 : W1.grownBy w1 (Value.slice la N lc).ownBlock := grown_trans (grown_trans hg (World.grownBy_alloc _ _ _)) A1.1
   have s1 : MarkK w1 66 [.int .i64 x, .string ⟨#[]⟩] (.slice (some ⟨g1, 0, none⟩) (N + 1) d1) (N + 1) := MarkK.own r1
   have q1 : (Value.slice la N lc).ownBlock = some g1 ∨ W.heap.size ≤ g1 := by
    rcases A1.2.1 with h | ⟨h, _⟩
    ·exact .inl h
    ·right; have := hg.size; simp at h; omega
   clear m0 m1 r1 A1
   obtain ⟨_, hmk, _⟩ := HGR.out w1 hg1
   obtain ⟨m0, m1⟩ := mcellA hmk
   clear hmk
   go_wp2_with (first
    | (at_builtin; refine wpList_append_two _ rfl _ _ 63 rfl 0 66 i0 (.agg #[.int .i64 0, .string ByteArray.empty]) 2 24 huL hi0 hz0 hz1 hz2 rfl _ _ _ rfl (o1.alloc _) ⟨w1.heap.size, 0, none⟩ 2 2 (mks [.int .i64 x, .string ⟨#[]⟩] 2) rfl rfl (World.news_of_block (Go.heap_alloc_new _ _)) (mks_cell hmo 2) (by decide) (by unfold maxLen; omega) (by omega) (Nat.zero_le _) ?_))
   intro g2 d2 w2 r2 o2 A2
   rw [← mks_add] at r2
   have hg2 : W1.grownBy w2 (Value.slice la N lc).ownBlock := grown_trans (grown_trans hg1 (World.grownBy_alloc _ _ _)) A2.1
   have s1' : MarkK w2 66 [.int .i64 x, .string ⟨#[]⟩] (.slice (some ⟨g1, 0, none⟩) (N + 1) d1) (N + 1) := (s1.alloc _).app A2 r2 (by omega)
   have s2 : MarkK w2 66 [.int .i64 x, .string ⟨#[]⟩] (.slice (some ⟨g2, 0, none⟩) (N + 2) d2) (N + 2) := MarkK.own r2
   have q2 : (Value.slice la N lc).ownBlock = some g2 ∨ W.heap.size ≤ g2 := by
    rcases A2.2.1 with h | ⟨h, _⟩
    ·exact .inl h
    ·right; have := hg1.size; simp at h; omega
   clear m0 m1 r2 A2 s1
   obtain ⟨_, hmk, _⟩ := HGR.out w2 hg2
   obtain ⟨m0, m1⟩ := mcellA hmk
   clear hmk
   go_wp2_with (first
    | (at_builtin; refine wpList_append_two _ rfl _ _ 63 rfl 0 66 i0 (.agg #[.int .i64 0, .string ByteArray.empty]) 2 24 huL hi0 hz0 hz1 hz2 rfl _ _ _ rfl (o2.alloc _) ⟨w2.heap.size, 0, none⟩ 3 3 (mks [.int .i64 x, .string ⟨#[]⟩] 3) rfl rfl (World.news_of_block (Go.heap_alloc_new _ _)) (mks_cell hmo 3) (by decide) (by unfold maxLen; omega) (by omega) (Nat.zero_le _) ?_))
   intro g3 d3 w3 r3 o3 A3
   rw [← mks_add] at r3
   have hg3 : W1.grownBy w3 (Value.slice la N lc).ownBlock := grown_trans (grown_trans hg2 (World.grownBy_alloc _ _ _)) A3.1
   have s1 : MarkK w3 66 [.int .i64 x, .string ⟨#[]⟩] (.slice (some ⟨g1, 0, none⟩) (N + 1) d1) (N + 1) := (s1'.alloc _).app A3 r3 (by omega)
   have s2' : MarkK w3 66 [.int .i64 x, .string ⟨#[]⟩] (.slice (some ⟨g2, 0, none⟩) (N + 2) d2) (N + 2) := (s2.alloc _).app A3 r3 (by omega)
   have s3 : MarkK w3 66 [.int .i64 x, .string ⟨#[]⟩] (.slice (some ⟨g3, 0, none⟩) (N + 3) d3) (N + 3) := MarkK.own r3
   have s0 : MarkK w3 66 [.int .i64 x, .string ⟨#[]⟩] (.slice la N lc) N := MarkK.own o3
   have q3 : (Value.slice la N lc).ownBlock = some g3 ∨ W.heap.size ≤ g3 := by
    rcases A3.2.1 with h | ⟨h, _⟩
    ·exact .inl h
    ·right; have := hg2.size; simp at h; omega
   clear m0 m1 r3 A3 s1' s2 o1 o2 hg hg1 hg2 ho
   obtain ⟨box3, mrk3, hps3, hpm3, hK3, hz3⟩ := HGR.out w3 hg3
   have b1 : w3.cell? ⟨B, 5, none⟩ = some (.slice pa n pc) := by rw [cell_blk box3]; rfl
   go_wp2_with (first
    | (at_builtin; refine wpList_append_two _ rfl _ _ 92 rfl 0 63 j0 (.slice none 0 0) 1 24 huLL hj0 hy0 hy1 hy2 rfl _ _ _ rfl (hps3.alloc _) ⟨w3.heap.size, 0, none⟩ 4 4 [.slice la N lc, .slice (some ⟨g1, 0, none⟩) (N + 1) d1, .slice (some ⟨g2, 0, none⟩) (N + 2) d2, .slice (some ⟨g3, 0, none⟩) (N + 3) d3] rfl rfl (World.news_of_block (Go.heap_alloc_new _ _)) ?one4 (by decide) (by unfold maxLen; omega) (by omega) (Nat.zero_le _) ?_))
   case one4 => intro u hu; simp at hu; rcases hu with rfl | rfl | rfl | rfl <;> rfl
   intro gr cr w4 r4 o4 A4
   have G4 : w3.grownBy w4 (Value.slice pa n pc).ownBlock := grown_trans (World.grownBy_alloc _ _ _) A4.1
   have q4 : (Value.slice pa n pc).ownBlock = some gr ∨ W.heap.size ≤ gr := by
    rcases A4.2.1 with h | ⟨h, _⟩
    ·exact .inl h
    ·right; simp at h; omega
   have hf4 : ∀ (j : Nat) (c : Array Value) (e : TypeId), e ≠ 63 → w3.heap[j]? = some (.cells c e (0, 0)) → w4.heap[j]? = w3.heap[j]? := fun j c e he hc => G4.block j (Array.getElem?_eq_some_iff.1 hc).1 (own_far hps3 hc he.symm)
   have box4 := (hf4 _ _ _ (by decide) box3).trans box3
   have d1' : w4.cell? ⟨B, 5, none⟩ = some (.slice pa n pc) := by rw [cell_blk box4]; rfl
   have df : w4.frozen? ⟨B, 5, none⟩ = false := frozen_of_row w4 B 5 _ 97 box4
   obtain ⟨w5, hw5⟩ : ∃ w5, w4.setCell ⟨B, 5, none⟩ (.slice (some ⟨gr, 0, none⟩) (n + 4) cr) = w5 := ⟨_, rfl⟩
   have hf5 : ∀ (j : Nat) (c : Array Value) (e : TypeId), e ≠ 63 → e ≠ 97 → w3.heap[j]? = some (.cells c e (0, 0)) → w5.heap[j]? = w3.heap[j]? := fun j c e he h97 hc => by
    rw [← hw5, Below.heap_setCell w4 ⟨B, 5, none⟩ _ j (kind_ne hc box3 h97), hf4 j c e he hc]
   have box5 : w5.heap[B]? = some (.cells #[c0, c1, c2, c3, c4, .slice (some ⟨gr, 0, none⟩) (n + 4) cr, .slice ma n mc, c7, c8, .int .i64 ((nx : Int) + 1)] 97 (0, 0)) := by
    rw [← hw5, heap_setCell_same w4 B 5 _ 97 _ box4]
    simp
   have mrk5 := (hf5 _ _ _ (by decide) (by decide) mrk3).trans mrk3
   have hq5 : w5.ownsRow 0 3 1 (.slice ma n mc) n xs := own_same hpm3 fun j e => by
    obtain ⟨c, hc⟩ := own_blk hpm3 e
    exact hf5 j _ 3 (by decide) (by decide) hc
   have hp5 : w5.ownsRow 0 63 1 (.slice (some ⟨gr, 0, none⟩) (n + 4) cr) (n + 4) (vs ++ [.slice la N lc, .slice (some ⟨g1, 0, none⟩) (N + 1) d1, .slice (some ⟨g2, 0, none⟩) (N + 2) d2, .slice (some ⟨g3, 0, none⟩) (N + 3) d3]) := own_same r4 fun j e => by
    rw [← hw5]
    exact Below.heap_setCell _ _ _ _ (by rintro rfl; exact own_far r4 box4 (by decide) e.symm)
   have mk5 : ∀ (v : Value) (m : Nat), MarkK w3 66 [.int .i64 x, .string ⟨#[]⟩] v m → MarkK w5 66 [.int .i64 x, .string ⟨#[]⟩] v m := fun v m h => h.kept fun j c _ hc => hf5 j c 66 (by decide) (by decide) hc
   have t0 := mk5 _ _ s0
   have t1 := mk5 _ _ s1
   have t2 := mk5 _ _ s2'
   have t3 := mk5 _ _ s3
   have hK5 : Keeps (fun j => j = B ∨ (Value.slice pa n pc).ownBlock = some j ∨ (Value.slice ma n mc).ownBlock = some j ∨ (Value.slice la N lc).ownBlock = some j) W w5 := by
    rw [← hw5]
    exact (hK3.grown G4 (fun j e => .inl (.inr (.inl e)))).set (.inl (.inl rfl)) 5 _
   have lB5 : B < w5.heap.size := (Array.getElem?_eq_some_iff.1 box5).1
   have hz5 : W.heap.size < w5.heap.size := (Array.getElem?_eq_some_iff.1 mrk5).1
   obtain ⟨Y, hY⟩ : ∃ Y, w5.drew = Y := ⟨_, rfl⟩
   have YH : Y.heap = w5.heap := by rw [← hY]; rfl
   have hq5Y : Y.ownsRow 0 3 1 (.slice ma n mc) n xs := own_same hq5 fun j _ => by rw [YH]
   have hKY : Keeps (fun j => j = B ∨ (Value.slice pa n pc).ownBlock = some j ∨ (Value.slice ma n mc).ownBlock = some j ∨ (Value.slice la N lc).ownBlock = some j) W Y := by rw [← hY]; exact hK5.drew
   have HEND : Hid (∀ o gm cm w6, w6.ownsRow 0 3 1 (.slice (some ⟨gm, 0, none⟩) (n + 4) cm) (n + 4) (xs ++ [.int .i64 x, .int .i64 x, .int .i64 x, .int .i64 x]) → Lies (Y.alloc o) w6 (.slice ma n mc) gm →
     w6.cell? ⟨W.heap.size, 0, none⟩ = some (.int .i64 x) ∧ w6.cell? ⟨B, 6, none⟩ = some (.slice ma n mc) ∧ w6.frozen? ⟨B, 6, none⟩ = false ∧ (w6.setCell ⟨B, 6, none⟩ (.slice (some ⟨gm, 0, none⟩) (n + 4) cm)).cell? ⟨W.heap.size, 0, none⟩ = some (.int .i64 x) ∧
     ((w6.setCell ⟨B, 6, none⟩ (.slice (some ⟨gm, 0, none⟩) (n + 4) cm)).heap[B]? = some (.cells #[c0, c1, c2, c3, c4, .slice (some ⟨gr, 0, none⟩) (n + 4) cr, .slice (some ⟨gm, 0, none⟩) (n + 4) cm, c7, c8, .int .i64 ((nx : Int) + 1)] 97 (0, 0)) ∧ (w6.setCell ⟨B, 6, none⟩ (.slice (some ⟨gm, 0, none⟩) (n + 4) cm)).ownsRow 0 63 1 (.slice (some ⟨gr, 0, none⟩) (n + 4) cr) (n + 4) (vs ++ [.slice la N lc, .slice (some ⟨g1, 0, none⟩) (N + 1) d1, .slice (some ⟨g2, 0, none⟩) (N + 2) d2, .slice (some ⟨g3, 0, none⟩) (N + 3) d3]) ∧ (w6.setCell ⟨B, 6, none⟩ (.slice (some ⟨gm, 0, none⟩) (n + 4) cm)).ownsRow 0 3 1 (.slice (some ⟨gm, 0, none⟩) (n + 4) cm) (n + 4) (xs ++ [.int .i64 x, .int .i64 x, .int .i64 x, .int .i64 x]) ∧
       (MarkK (w6.setCell ⟨B, 6, none⟩ (.slice (some ⟨gm, 0, none⟩) (n + 4) cm)) 66 [.int .i64 x, .string ⟨#[]⟩] (.slice la N lc) N ∧ MarkK (w6.setCell ⟨B, 6, none⟩ (.slice (some ⟨gm, 0, none⟩) (n + 4) cm)) 66 [.int .i64 x, .string ⟨#[]⟩] (.slice (some ⟨g1, 0, none⟩) (N + 1) d1) (N + 1) ∧ MarkK (w6.setCell ⟨B, 6, none⟩ (.slice (some ⟨gm, 0, none⟩) (n + 4) cm)) 66 [.int .i64 x, .string ⟨#[]⟩] (.slice (some ⟨g2, 0, none⟩) (N + 2) d2) (N + 2) ∧ MarkK (w6.setCell ⟨B, 6, none⟩ (.slice (some ⟨gm, 0, none⟩) (n + 4) cm)) 66 [.int .i64 x, .string ⟨#[]⟩] (.slice (some ⟨g3, 0, none⟩) (N + 3) d3) (N + 3)) ∧
       Keeps (fun j => j = B ∨ (Value.slice pa n pc).ownBlock = some j ∨ (Value.slice ma n mc).ownBlock = some j ∨ (Value.slice la N lc).ownBlock = some j) W (w6.setCell ⟨B, 6, none⟩ (.slice (some ⟨gm, 0, none⟩) (n + 4) cm)) ∧ ((Value.slice pa n pc).ownBlock = some gr ∨ W.heap.size ≤ gr) ∧ ((Value.slice ma n mc).ownBlock = some gm ∨ W.heap.size ≤ gm) ∧ ((Value.slice la N lc).ownBlock = some g1 ∨ W.heap.size ≤ g1) ∧ ((Value.slice la N lc).ownBlock = some g2 ∨ W.heap.size ≤ g2) ∧ ((Value.slice la N lc).ownBlock = some g3 ∨ W.heap.size ≤ g3))) := by
    intro o gm cm w6 r6 L6
    have hf6 : ∀ (j : Nat) (c : Array Value) (e : TypeId), e ≠ 3 → w5.heap[j]? = some (.cells c e (0, 0)) → w6.heap[j]? = some (.cells c e (0, 0)) := fun j c e he hc => by
     have lj : j < w5.heap.size := (Array.getElem?_eq_some_iff.1 hc).1
     have lY : j < Y.heap.size := by rw [YH]; exact lj
     refine (L6.1.block j (by simp; omega) (own_far hq5 hc he.symm)).trans ((Below.heap_alloc Y o j lY).trans ?_)
     rw [YH]; exact hc
    have b6 := hf6 _ _ _ (by decide) box5
    have e6 := hf6 _ _ _ (by decide) mrk5
    have hf7 : ∀ (j : Nat) (c : Array Value) (e : TypeId), e ≠ 3 → e ≠ 97 → w5.heap[j]? = some (.cells c e (0, 0)) → (w6.setCell ⟨B, 6, none⟩ (.slice (some ⟨gm, 0, none⟩) (n + 4) cm)).heap[j]? = some (.cells c e (0, 0)) := fun j c e he h97 hc =>
     (Below.heap_setCell w6 ⟨B, 6, none⟩ _ j (kind_ne hc box5 h97)).trans (hf6 j c e he hc)
    have mk7 : ∀ (v : Value) (m : Nat), MarkK w5 66 [.int .i64 x, .string ⟨#[]⟩] v m → MarkK (w6.setCell ⟨B, 6, none⟩ (.slice (some ⟨gm, 0, none⟩) (n + 4) cm)) 66 [.int .i64 x, .string ⟨#[]⟩] v m := fun v m h => h.kept fun j c _ hc => (hf7 j c 66 (by decide) (by decide) hc).trans hc.symm
    refine ⟨by rw [cell_blk e6]; rfl, by rw [cell_blk b6]; rfl, frozen_of_row w6 B 6 _ 97 b6, by rw [cell_blk (hf7 _ _ _ (by decide) (by decide) mrk5)]; rfl, ?_, own_same hp5 fun j e => ?_, own_same r6 fun j e => Below.heap_setCell _ _ _ _ ?_, ⟨mk7 _ _ t0, mk7 _ _ t1, mk7 _ _ t2, mk7 _ _ t3⟩, ?_, q4, ?_, q1, q2, q3⟩
    ·rw [heap_setCell_same w6 B 6 _ 97 _ b6]
     simp
    ·obtain ⟨c, hc⟩ := own_blk hp5 e
     exact (hf7 j c 63 (by decide) (by decide) hc).trans hc.symm
    ·rintro rfl
     exact own_far r6 b6 (by decide) e.symm
    ·exact ((hKY.alloc o).grown L6.1 (fun j e => .inl (.inr (.inr (.inl e))))).set (.inl (.inl rfl)) 6 _
    ·rcases L6.2.1 with h | ⟨h, _⟩
     ·exact .inl h
     ·right; simp at h; rw [YH] at h; omega
   clear b1 o4 r4 s0 s1 s2' s3 o3 A4 hf4 box4 hf5 hps3 hpm3 hK3 hp5 mk5 t0 t1 t2 t3 hK5 hKY q1 q2 q3 q4 hq5 box3 mrk3 hg3 G4
   go_wp2
   have hon2 : ∀ u ∈ [Value.int .i64 x, .int .i64 x, .int .i64 x, .int .i64 x], u.oneCell' = true := by intro u hu; simp at hu; rw [hu]; rfl
   have hr4 : n + 4 ≤ maxLen ∧ (n + 4) * 8 ≤ 140737488355328 := ⟨by unfold maxLen; omega, by omega⟩
   have hq5 := hq5Y
   have m1d : w5.drew.cell? ⟨W.heap.size, 0, none⟩ = some (.int .i64 x) := by rw [show w5.drew.cell? ⟨W.heap.size, 0, none⟩ = w5.cell? ⟨W.heap.size, 0, none⟩ from rfl, cell_blk mrk5]; rfl
   have mrkY : Y.heap[W.heap.size]? = some (.cells #[.int .i64 x, .string ⟨#[]⟩] 66 (0, 0)) := by rw [YH]; exact mrk5
   have boxY : Y.heap[B]? = some (.cells #[c0, c1, c2, c3, c4, .slice (some ⟨gr, 0, none⟩) (n + 4) cr, .slice ma n mc, c7, c8, .int .i64 ((nx : Int) + 1)] 97 (0, 0)) := by rw [YH]; exact box5
   have lBY : B < Y.heap.size := by rw [YH]; exact lB5
   have lMY : W.heap.size < Y.heap.size := by rw [YH]; exact hz5
   have y2 : Y.cell? ⟨B, 6, none⟩ = some (.slice ma n mc) := by rw [cell_blk boxY]; rfl
   have y2a : ∀ o, (Y.alloc o).cell? ⟨B, 6, none⟩ = some (.slice ma n mc) := fun o => by rw [cell_blk ((Below.heap_alloc Y o B lBY).trans boxY)]; rfl
   have m1a : ∀ o, (Y.alloc o).cell? ⟨W.heap.size, 0, none⟩ = some (.int .i64 x) := fun o => by rw [cell_blk ((Below.heap_alloc Y o _ lMY).trans mrkY)]; rfl
   clear hw5 box5 mrk5 boxY mrkY YH lB5 hz5 hz3 lBY lMY z1 hl1 hl hLc d1' df b9 bf
   refine wp_region_held_drew (S := fun w' => w'.cell? ⟨W.heap.size, 0, none⟩ = some (.int .i64 x)) (by kernel_rfl) m1d (fun hS => ?_)
   rw [hY] at hS ⊢
   clear m1d hY hq5Y
   refine tkS (i := 0) (v := .pointer (some ⟨B, 1, none⟩)) rfl hS ?_
   refine tkS (i := 1) (v := .pointer (some ⟨B, 1, none⟩)) rfl hS ?_
   refine tkS (i := 2) (v := .pointer (some ⟨B, 1, none⟩)) rfl hS ?_
   refine tkS (i := 3) (v := .pointer (some ⟨B, 6, none⟩)) rfl hS ?_
   refine tkS (i := 5) (v := .pointer (some ⟨W.heap.size, 0, none⟩)) rfl hS ?_
   refine tkY (i := 6) (v := .int .i64 x) rfl (Or.inl ⟨by rfl, fun w' hw => by have h0 : w'.cell? ⟨W.heap.size, 0, none⟩ = some (.int .i64 x) := hw; go_simp⟩) hS ?_
   refine tkS (i := 7) (v := .pointer (some ⟨W.heap.size, 0, none⟩)) rfl hS ?_
   refine tkY (i := 8) (v := .int .i64 x) rfl (Or.inl ⟨by rfl, fun w' hw => by have h0 : w'.cell? ⟨W.heap.size, 0, none⟩ = some (.int .i64 x) := hw; go_simp⟩) hS ?_
   refine tkS (i := 9) (v := .pointer (some ⟨W.heap.size, 0, none⟩)) rfl hS ?_
   refine tkY (i := 10) (v := .int .i64 x) rfl (Or.inl ⟨by rfl, fun w' hw => by have h0 : w'.cell? ⟨W.heap.size, 0, none⟩ = some (.int .i64 x) := hw; go_simp⟩) hS ?_
   refine tkS (i := 11) (v := .pointer (some ⟨W.heap.size, 0, none⟩)) rfl hS ?_
   refine tkY (i := 12) (v := .int .i64 x) rfl (Or.inl ⟨by rfl, fun w' hw => by have h0 : w'.cell? ⟨W.heap.size, 0, none⟩ = some (.int .i64 x) := hw; go_simp⟩) hS ?_
   refine wpAnyH_ready (rs := [4, 13]) (by kernel_rfl) (by simp) ?_
   refine AllReadyH.cons rfl (fun K hK => ?_) (AllReadyH.cons rfl (fun K hK => ?_) AllReadyH.nil)
   ·go_simp
    refine hK.out _ _ hS fun hS => ?_
    refine wpAnyH_ready (rs := [13]) (by kernel_rfl) (by simp) ?_
    refine AllReadyH.cons rfl (fun K hK => ?_) AllReadyH.nil
    go_simp
    refine hK.out _ _ (m1a _) fun hS => ?_
    refine wpAnyH_ready (rs := [14]) (by kernel_rfl) (by simp) ?_
    refine AllReadyH.cons rfl (fun K hK => ?_) AllReadyH.nil
    refine step_append_two _ rfl _ _ 28 rfl 0 3 k0 (.int .i64 0) 1 8 hu28 hk0 hx0 hx1 hx2 rfl (.slice ma n mc) _ _ rfl (hq5.alloc _) ⟨Y.heap.size, 0, none⟩ 4 4 [.int .i64 x, .int .i64 x, .int .i64 x, .int .i64 x] rfl rfl (World.news_of_block (Go.heap_alloc_new _ _)) hon2 (by decide) hr4.1 hr4.2 (Nat.zero_le _) ?_
    intro g6 c6 w6 r6 o6 L6
    obtain ⟨k1, k2, k3, k4, kE⟩ := HEND.out _ g6 c6 w6 r6 L6
    clear r6 o6 L6
    refine hK.out _ _ k1 fun hS => ?_
    refine tkS (i := 15) (v := .pointer (some ⟨B, 1, none⟩)) rfl hS ?_
    refine tkS (i := 16) (v := .pointer (some ⟨B, 6, none⟩)) rfl hS ?_
    refine wpAnyH_ready (rs := [17]) (by kernel_rfl) (by simp) ?_
    refine AllReadyH.cons rfl (fun K hK => ?_) AllReadyH.nil
    go_simp
    refine hK.out _ _ k4 fun hS => ?_
    refine wpAnyH_done (by kernel_rfl) ?_ _
    go_end0
    exact ⟨rfl, gr, cr, g6, c6, g1, d1, g2, d2, g3, d3, kE⟩
   ·go_simp
    refine hK.out _ _ (m1a _) fun hS => ?_
    refine wpAnyH_ready (rs := [4]) (by kernel_rfl) (by simp) ?_
    refine AllReadyH.cons rfl (fun K hK => ?_) AllReadyH.nil
    go_simp
    refine hK.out _ _ hS fun hS => ?_
    refine wpAnyH_ready (rs := [14]) (by kernel_rfl) (by simp) ?_
    refine AllReadyH.cons rfl (fun K hK => ?_) AllReadyH.nil
    refine step_append_two _ rfl _ _ 28 rfl 0 3 k0 (.int .i64 0) 1 8 hu28 hk0 hx0 hx1 hx2 rfl (.slice ma n mc) _ _ rfl (hq5.alloc _) ⟨Y.heap.size, 0, none⟩ 4 4 [.int .i64 x, .int .i64 x, .int .i64 x, .int .i64 x] rfl rfl (World.news_of_block (Go.heap_alloc_new _ _)) hon2 (by decide) hr4.1 hr4.2 (Nat.zero_le _) ?_
    intro g6 c6 w6 r6 o6 L6
    obtain ⟨k1, k2, k3, k4, kE⟩ := HEND.out _ g6 c6 w6 r6 L6
    clear r6 o6 L6
    refine hK.out _ _ k1 fun hS => ?_
    refine tkS (i := 15) (v := .pointer (some ⟨B, 1, none⟩)) rfl hS ?_
    refine tkS (i := 16) (v := .pointer (some ⟨B, 6, none⟩)) rfl hS ?_
    refine wpAnyH_ready (rs := [17]) (by kernel_rfl) (by simp) ?_
    refine AllReadyH.cons rfl (fun K hK => ?_) AllReadyH.nil
    go_simp
    refine hK.out _ _ k4 fun hS => ?_
    refine wpAnyH_done (by kernel_rfl) ?_ _
    go_end0
    exact ⟨rfl, gr, cr, g6, c6, g1, d1, g2, d2, g3, d3, kE⟩
end Go.Proofs.YtefdokkadckbbaaGreatDoor
