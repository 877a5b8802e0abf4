/- Ra Pe Re -/
import Derived.Test.YtefdokkadckbbaaGreatDoorZ24
section
namespace Go.Proofs.YtefdokkadckbbaaGreatDoor
open Go.RowKit
set_option maxRecDepth 100000
def mks (m : List Value) (n : Nat) : List Value := (List.replicate n m).flatten
theorem mks_length (m : List Value) (n : Nat) : (mks m n).length = n * m.length := by simp [mks]
theorem mks_add (m : List Value) (n k : Nat) : mks m (n + k) = mks m n ++ mks m k := by
 unfold mks; rw [← List.flatten_append, List.replicate_append_replicate]
theorem mks_one (m : List Value) : mks m 1 = m := by simp [mks]
theorem mks_take (m : List Value) {n k : Nat} (h : n ≤ k) : (mks m k).take (n * m.length) = mks m n := by
 obtain ⟨j, rfl⟩ : ∃ j, k = n + j := ⟨k - n, by omega⟩
 rw [mks_add, ← mks_length m n]; exact List.take_left
theorem mks_cell {m : List Value} (h : ∀ u ∈ m, u.oneCell' = true) (n : Nat) : ∀ u ∈ mks m n, u.oneCell' = true := by
 intro u hu
 simp only [mks, List.mem_flatten, List.mem_replicate] at hu
 obtain ⟨l, ⟨_, rfl⟩, hu⟩ := hu
 exact h u hu
def MarkK (W : World) (e : TypeId) (m : List Value) (v : Value) (n : Nat) : Prop :=
 (v = .slice none 0 0 ∧ n = 0) ∨ ∃ g cap cur, v = .slice (some ⟨g, 0, none⟩) n cap ∧ W.heap[g]? = some (.cells cur e (0, 0)) ∧ cur.toList.take (n * m.length) = mks m n
theorem MarkK.own {W : World} {b e : Nat} {m : List Value} {v : Value} {n : Nat} (h : W.ownsRow b e m.length v n (mks m n)) : MarkK W e m v n := by
 rcases h.2 with ⟨h1, h2⟩ | ⟨g, cap, cur, hv, _, hg, _, _, _, ht⟩
 ·exact .inl ⟨h1, h2⟩
 ·exact .inr ⟨g, cap, cur, hv, hg, ht⟩
theorem MarkK.kept {W W' : World} {e : TypeId} {m : List Value} {v : Value} {n : Nat} (h : MarkK W e m v n) (hk : ∀ k cur, v.ownBlock = some k → W.heap[k]? = some (.cells cur e (0, 0)) → W'.heap[k]? = W.heap[k]?) : MarkK W' e m v n := by
 rcases h with h | ⟨g, cap, cur, rfl, hg, ht⟩
 ·exact .inl h
 ·exact .inr ⟨g, cap, cur, rfl, (hk g cur rfl hg).trans hg, ht⟩
theorem MarkK.alloc {W : World} {e : TypeId} {m : List Value} {v : Value} {n : Nat} (h : MarkK W e m v n) (o : Obj) : MarkK (W.alloc o) e m v n :=
 h.kept fun k _ _ hk => Below.heap_alloc W o k (Array.getElem?_eq_some_iff.1 hk).1
theorem MarkK.app {W W' : World} {e : TypeId} {m : List Value} {l v : Value} {n N g cap b : Nat} (h : MarkK W e m v n) (hl : Lies W W' l g) (hr : W'.ownsRow b e m.length (.slice (some ⟨g, 0, none⟩) N cap) N (mks m N)) (hn : n ≤ N) : MarkK W' e m v n := by
 rcases h with h | ⟨g', cap', cur, rfl, hg, ht⟩
 ·exact .inl h
 have hlt := (Array.getElem?_eq_some_iff.1 hg).1
 by_cases hb : l.ownBlock = some g'
 ·rcases hl.2.1 with h1 | ⟨_, h2⟩
  ·obtain rfl : g' = g := by rw [h1] at hb; simpa using hb.symm
   rcases hr.2 with ⟨h3, _⟩ | ⟨g2, cap2, cur2, hv2, _, hg2, _, _, _, ht2⟩
   ·simp at h3
   ·simp at hv2
    obtain ⟨rfl, _⟩ := hv2
    refine .inr ⟨g', cap', cur2, rfl, hg2, ?_⟩
    rw [← mks_take m hn, ← ht2, List.take_take, Nat.min_eq_left (Nat.mul_le_mul_right _ hn)]
  ·exact .inr ⟨g', cap', cur, rfl, (h2.block g' hlt (by simp)).trans hg, ht⟩
 ·exact .inr ⟨g', cap', cur, rfl, (hl.1.block g' hlt (fun e => hb e.symm)).trans hg, ht⟩
def fillC (m Lc : List Value) (k : Nat) : List Value := mks m k ++ Lc.drop (k * m.length)
theorem fillC_zero (m Lc : List Value) : fillC m Lc 0 = Lc := by simp [fillC, mks]
theorem fillC_all (m Lc : List Value) {n : Nat} (h : Lc.length = n * m.length) : fillC m Lc n = mks m n := by
 unfold fillC
 rw [List.drop_of_length_le (by omega), List.append_nil]
theorem fillC_step (m Lc : List Value) (k : Nat) : splice (fillC m Lc k) (k * m.length) m = fillC m Lc (k + 1) := by
 unfold fillC splice
 rw [← mks_length m k, List.take_left, mks_add, mks_one, List.append_assoc]
 congr 2
 rw [List.drop_append, List.drop_of_length_le (by omega), List.nil_append, List.drop_drop, mks_length]
 congr 1
 rw [Nat.add_mul]
 omega
theorem own_fill {w w' : World} {lo e g cap n k : Nat} {m Lc : List Value} (h : w.ownsRow lo e m.length (.slice (some ⟨g, 0, none⟩) n cap) n (fillC m Lc k)) (hk : k < n) {cur : Array Value} (hc : w.heap[g]? = some (.cells cur e (0, 0)))
  (h' : w'.heap[g]? = some (.cells (splice cur.toList (k * m.length) m).toArray e (0, 0))) : w'.ownsRow lo e m.length (.slice (some ⟨g, 0, none⟩) n cap) n (fillC m Lc (k + 1)) := by
 obtain ⟨h1, ⟨h2, _⟩ | ⟨g', cap', cur', hv, hlo, hg, hnc, hcm, hcs, ht⟩⟩ := h
 ·cases h2
 simp at hv
 obtain ⟨rfl, rfl⟩ := hv
 rw [hc] at hg
 simp at hg
 subst hg
 have hlen : k * m.length + m.length ≤ n * m.length := by
  have := Nat.mul_le_mul_right m.length (show k + 1 ≤ n from hk)
  rw [Nat.add_mul] at this
  omega
 have hcl : n * m.length ≤ cur.toList.length := by
  have e : cur.toList.length = cur.size := Array.length_toList
  rw [e, hcs]; exact Nat.mul_le_mul_right _ hnc
 have hL : (fillC m Lc (k + 1)).length = n * m.length := by
  rw [← fillC_step, length_splice _ _ _ (by rw [h1]; exact hlen), h1]
 refine ⟨hL, .inr ⟨g, cap, _, rfl, hlo, h', hnc, hcm, ?_, ?_⟩⟩
 ·rw [List.size_toArray, length_splice _ _ _ (by omega), Array.length_toList, hcs]
 ·rw [List.toList_toArray, take_splice _ _ _ _ hlen hcl, ht, fillC_step]
end Go.Proofs.YtefdokkadckbbaaGreatDoor
end
section
namespace Go.Proofs.YtefdokkadckbbaaGreatDoor
open Go.RowKit
set_option maxRecDepth 100000
def cutN (from_ : Int) (n : Nat) : Nat := if from_ < 0 then 0 else if (n : Int) < from_ then n else from_.toNat
theorem cutN_le (f : Int) (n : Nat) : cutN f n ≤ n := by unfold cutN; split; omega; split; omega; omega
theorem cutN_val (f : Int) (n : Nat) : min (max f 0) (n : Int) = (cutN f n : Nat) := by unfold cutN; split; omega; split; omega; omega
theorem pcells_length (L : List (Int × ByteArray)) : (pcells L).length = L.length * 2 := by
 induction L with
 | nil => rfl
 | cons p l ih => simp only [pcells, List.map_cons, List.flatten_cons, List.length_append, List.length_cons, List.length_nil] at ih ⊢; omega
theorem pcells_drop (L : List (Int × ByteArray)) (k : Nat) : pcells (L.drop k) = (pcells L).drop (k * 2) := by
 induction k generalizing L with
 | zero => simp
 | succ k ih =>
  cases L with
  | nil => simp [pcells]
  | cons p l =>
   rw [List.drop_succ_cons, ih]
   simp only [pcells, List.map_cons, List.flatten_cons]
   rw [show (k + 1) * 2 = 2 + k * 2 by omega, ← List.drop_drop]
   rfl
theorem pcells_one (L : List (Int × ByteArray)) : ∀ u ∈ pcells L, u.oneCell' = true := by
 intro u hu
 simp only [pcells, List.mem_flatten, List.mem_map] at hu
 obtain ⟨l, ⟨p, _, rfl⟩, hu⟩ := hu
 simp at hu
 rcases hu with rfl | rfl <;> rfl
set_option maxHeartbeats 2000000 in
theorem tailP_any (v : Value) (L : List (Int × ByteArray)) (f : Int) (w : World) (hv : w.ownsRow 0 105 2 v L.length (pcells L)) (hL : L.length ≤ 33554432) :
  Calls Tryz.prog 55 #[v, .int .i64 f] w fun e w' => ∃ v', e = .returned v' ∧ w'.ownsRow w.heap.size 105 2 v' (L.drop (cutN f L.length)).length (pcells (L.drop (cutN f L.length))) ∧ Below w.heap.size w w' := by
 obtain ⟨i0, hi0, hz0, hz1, hz2⟩ := info_parts infoP
 have hu31 := u31
 have hc := cutN_le f L.length
 obtain ⟨c, hcut⟩ : ∃ c, c = cutN f L.length := ⟨_, rfl⟩
 have hmm : min (max f 0) (L.length : Int) = (c : Int) := by rw [hcut]; exact cutN_val f L.length
 rw [← hcut] at hc ⊢
 have hdl : (pcells (L.drop c)).length = (L.length - c) * 2 := by rw [pcells_length, List.length_drop]
 have HD : Hid (c = cutN f L.length) := hcut
 clear hcut
 rcases hv.2 with ⟨rfl, h0⟩ | ⟨g, cap, cur, rfl, _, hg, hnc, hcm, hcs, htake⟩
 ·have hl0 : L = [] := List.eq_nil_of_length_eq_zero h0
  subst hl0
  obtain rfl : c = 0 := by simpa using hc
  clear hmm
  have hm2 : min (max f 0) 0 = 0 := by omega
  go_enter Tryz.func55, Tryz.ntmps55
  go_wp2_with (first
   | (at_builtin; refine wpList_append_own_none rfl (.const (.slice none 0 0)) (.tmp 12) 31 rfl w.heap.size 105 i0 2 hu31 hi0 _ 0 [] rfl (World.ownsRow_nil _ _ _ _) rfl ?_))
  go_ret
  exact ⟨_, rfl, World.ownsRow_nil _ _ _ _, Below.refl _ _⟩
 ·have hcell : Hid (∀ j u, (pcells (L.drop c))[j]? = some u → w.cell? ((⟨g, c * 2, none⟩ : Addr).add j) = some u) := by
   intro j u hu
   rw [pcells_drop, List.getElem?_drop] at hu
   have := hv.cells (g := g) rfl _ u hu
   rw [Addr.add_lit] at this ⊢; simpa using this
  have HE : Hid (∀ v' w', w'.ownsRow w.heap.size 105 2 v' (L.length - c) (pcells (L.drop c)) → w.grownBy w' (Value.slice none 0 0).ownBlock → w'.ownsRow w.heap.size 105 2 v' (L.drop c).length (pcells (L.drop c)) ∧ Below w.heap.size w w') := by
   intro v' w' h1 h2
   refine ⟨by simpa using h1, h2.os, h2.tape, h2.output, h2.size, fun k hk => h2.block k hk (by simp [Value.ownBlock])⟩
  have hlen : (pcells (L.drop c)).length = (L.length - c) * 2 := hdl
  have h63 : 0 + (L.length - c) ≤ maxLen := by unfold maxLen; omega
  have hby : (0 + (L.length - c)) * 24 ≤ 140737488355328 := by omega
  clear hg hcs htake hv
  by_cases hlt : c < L.length
  ·have hne : ¬ cap = c := by omega
   go_enter Tryz.func55, Tryz.ntmps55
   go_wp2_with (first
    | (at_builtin; refine wpList_append_own _ rfl (.const (.slice none 0 0)) (.tmp 12) 31 rfl w.heap.size 105 i0 (.agg #[.int .i64 0, .string ByteArray.empty]) 2 24 hu31 hi0 hz0 hz1 hz2 rfl (by decide) _ 0 [] rfl (World.ownsRow_nil _ _ _ _) _ _ _ (pcells (L.drop c)) rfl hlen hcell.out (pcells_one _) h63 hby (Nat.le_refl _) ?_))
   intro v' w' h1 h2 _
   go_wp2
   go_ret
   exact ⟨v', rfl, HE.out v' w' h1 h2⟩
  ·obtain rfl : c = L.length := by omega
   have hd : L.drop L.length = [] := by simp
   rw [hd] at *
   have hnews : ∀ (ad : Addr) j u, ([] : List Value)[j]? = some u → w.cell? (ad.add j) = some u := fun _ j u h => by simp at h
   have hl0 : ([] : List Value).length = 0 * 2 := rfl
   have hE : Hid (∀ v' w', w'.ownsRow w.heap.size 105 2 v' 0 [] → w.grownBy w' (Value.slice none 0 0).ownBlock → w'.ownsRow w.heap.size 105 2 v' 0 (pcells []) ∧ Below w.heap.size w w') := by
    intro v' w' h1 h2
    exact ⟨h1, h2.os, h2.tape, h2.output, h2.size, fun k hk => h2.block k hk (by simp [Value.ownBlock])⟩
   clear hcell HE hlen hdl hlt hc h63 hby
   by_cases hcc : cap = L.length
   ·subst hcc
    go_enter Tryz.func55, Tryz.ntmps55
    go_wp2_with (first
     | (at_builtin; refine wpList_append_own _ rfl (.const (.slice none 0 0)) (.tmp 12) 31 rfl w.heap.size 105 i0 (.agg #[.int .i64 0, .string ByteArray.empty]) 2 24 hu31 hi0 hz0 hz1 hz2 rfl (by decide) _ 0 [] rfl (World.ownsRow_nil _ _ _ _) _ 0 _ [] rfl hl0 (hnews _) (by simp) (by decide) (by decide) (Nat.le_refl _) ?_))
    intro v' w' h1 h2 _
    go_wp2
    go_ret
    exact ⟨v', rfl, hE.out v' w' h1 h2⟩
   ·go_enter Tryz.func55, Tryz.ntmps55
    go_wp2_with (first
     | (at_builtin; refine wpList_append_own _ rfl (.const (.slice none 0 0)) (.tmp 12) 31 rfl w.heap.size 105 i0 (.agg #[.int .i64 0, .string ByteArray.empty]) 2 24 hu31 hi0 hz0 hz1 hz2 rfl (by decide) _ 0 [] rfl (World.ownsRow_nil _ _ _ _) _ 0 _ [] rfl hl0 (hnews _) (by simp) (by decide) (by decide) (Nat.le_refl _) ?_))
    intro v' w' h1 h2 _
    go_wp2
    go_ret
    exact ⟨v', rfl, hE.out v' w' h1 h2⟩
end Go.Proofs.YtefdokkadckbbaaGreatDoor
end
section
namespace Go.Proofs.YtefdokkadckbbaaGreatDoor
open Go.RowKit
set_option maxRecDepth 100000
def NumSl (w : World) (v : Value) (hs : List Int) : Prop :=
 ∃ a c, v = .slice a hs.length c ∧ (hs = [] ∨ ∃ g o, a = some ⟨g, o, none⟩ ∧ g < w.heap.size ∧ hs.length ≤ c ∧ ∀ j x, hs[j]? = some x → w.cell? ⟨g, o + j, none⟩ = some (.int .i64 x))
theorem NumSl.below {w w' : World} {v : Value} {hs : List Int} (h : NumSl w v hs) (hb : Below w.heap.size w w') : NumSl w' v hs := by
 obtain ⟨a, c, rfl, h | ⟨g, o, rfl, h1, h2, h3⟩⟩ := h
 ·exact ⟨a, c, rfl, .inl h⟩
 ·exact ⟨_, c, rfl, .inr ⟨g, o, rfl, Nat.lt_of_lt_of_le h1 hb.size, h2, fun j x hj => (hb.cell (p := ⟨g, o + j, none⟩) h1).trans (h3 j x hj)⟩⟩
set_option maxHeartbeats 1000000 in
theorem lentN_nil (n c : Nat) (w : World) : Calls Tryz.prog 71 #[.slice none n c] w fun e w' => e = .returned (.slice none 0 0) ∧ w' = w := by
 have hq := fun w => Lib.run_eql_slice_nil (P := Tryz.prog) w 28 3 none n c 0 0 u28
 go_enter Tryz.func71, Tryz.ntmps71
 go_wp2
 go_ret
 exact ⟨rfl, rfl⟩
set_option maxHeartbeats 1000000 in
theorem stillN_nil (v : Value) (n c : Nat) (w : World) : Calls Tryz.prog 73 #[v, .slice none n c] w fun e w' => e = .returned (.bool true) ∧ w' = w := by
 have hq := fun w => Lib.run_eql_slice_nil (P := Tryz.prog) w 28 3 none n c 0 0 u28
 go_enter Tryz.func73, Tryz.ntmps73
 go_wp2
 go_ret
 exact ⟨rfl, rfl⟩
theorem size3 : (Tryz.prog.info? 3).map (·.size) = some 1 := by kernel_rfl
theorem two_left {α : Type} {l : List α} (h : l.length = 2) : ∃ a b, l = [a, b] := by
 match l, h with
 | [a, b], _ => exact ⟨a, b, rfl⟩
theorem lentN_end {w w1 : World} {hs : List Int} {a b : Value} (e1 : w1.heap[w.heap.size]? = some (.cells (icells hs ++ [a, b]).toArray 3 (0, 0))) (hB1 : Below w.heap.size w w1) :
  ((w1.setCell ⟨w.heap.size, hs.length, none⟩ (.int .i64 (-7))).setCell ⟨w.heap.size, hs.length + 1, none⟩ (.int .i64 (-8))).heap[w.heap.size]? = some (.cells (icells hs ++ icells [-7, -8]).toArray 3 (0, 0)) ∧ Below w.heap.size w ((w1.setCell ⟨w.heap.size, hs.length, none⟩ (.int .i64 (-7))).setCell ⟨w.heap.size, hs.length + 1, none⟩ (.int .i64 (-8))) := by
 have hil : (icells hs).length = hs.length := by simp [icells]
 refine ⟨?_, (hB1.set (Nat.le_refl _) _ _).set (Nat.le_refl _) _ _⟩
 rw [heap_setCell_same _ w.heap.size (hs.length + 1) _ 3 _ (heap_setCell_same w1 w.heap.size hs.length _ 3 (.int .i64 (-7)) e1)]
 congr 2
 simp [← hil]
 simp [icells]
set_option maxHeartbeats 2000000 in
theorem lentN_some (ad : Addr) (c : Nat) (hs : List Int) (w : World) (hN : hs.length ≤ 1048576) (hsrc : ∀ j v, (icells hs)[j]? = some v → w.cell? (ad.add j) = some v) (hlt : hs.length ≠ 0 → ad.block < w.heap.size) :
  Calls Tryz.prog 71 #[.slice (some ad) hs.length c] w fun e w' => e = .returned (.slice (some ⟨w.heap.size, 0, none⟩) hs.length (hs.length + 2)) ∧ w'.heap[w.heap.size]? = some (.cells (icells hs ++ icells [-7, -8]).toArray 3 (0, 0)) ∧ Below w.heap.size w w' := by
 obtain ⟨i0, hi, hz0, hz1, hz2⟩ := info_parts info3
 have hq := fun w => Lib.run_eql_slice_nil (P := Tryz.prog) w 28 3 (some ad) hs.length c 0 0 u28
 have HS := hid hsrc
 have HL := hid hlt
 clear hsrc hlt
 go_enter Tryz.func71, Tryz.ntmps71
 go_wp2_with (at_make; refine wpList_make_full _ rfl _ _ 28 rfl w.heap.size 3 i0 (.int .i64 0) 1 u28 hi hz0 hz1 _ _ _ _ (hs.length + 2) rfl rfl (by omega) (by omega) ?b2 ?b3 (Nat.le_refl _) ?_)
 case b2 => rw [hz2]; omega
 case b3 => unfold maxLen; omega
 intro w0 hown0 hgrow0
 have hB0 : Below w.heap.size w w0 := (Below.refl _ _).grown hgrow0 (Nat.le_refl _) (fun k h => by cases h)
 obtain ⟨cur, hblk, hcur⟩ := owns_block hown0
 have HS0 : Hid (∀ j v, (icells hs)[j]? = some v → w0.cell? (ad.add j) = some v) := by
  intro j v hj
  have hne : hs.length ≠ 0 := by
   intro e
   obtain rfl := List.eq_nil_of_length_eq_zero e
   simp [icells] at hj
  have hbk : (ad.add j).block = ad.block := by unfold Addr.add; split <;> rfl
  rw [hB0.cell (p := ad.add j) (by rw [hbk]; exact HL.out hne)]
  exact HS.out j v hj
 have HB := hid hblk
 have hrl : (icells hs).length = hs.length * 1 := icells_length hs
 clear hown0 hgrow0 hblk
 go_wp2_with (refine wpList_copyK rfl (.tmp 12) (.tmp 13) 28 28 rfl 3 1 u28 size3 ad _ _ _ _ w.heap.size rfl rfl cur 3 HB.out (icells hs) (by omega) hrl HS0.out (by omega) (icells_one hs) w.heap.size w hB0 (Nat.le_refl _) ?_)
 intro w1 cur1 hk1 he1 hB1
 obtain ⟨a, b, hab⟩ : ∃ a b, cur1 = (icells hs ++ [a, b]).toArray := by
  obtain ⟨a, b, hd⟩ := two_left (l := cur.toList.drop (icells hs).length) (by rw [List.length_drop, Array.length_toList]; omega)
  refine ⟨a, b, ?_⟩
  rw [he1.out]
  unfold splice
  rw [List.take_zero, List.nil_append, Nat.zero_add, hd]
 have e1 : w1.heap[w.heap.size]? = some (.cells (icells hs ++ [a, b]).toArray 3 (0, 0)) := by rw [← hab]; exact hk1.out
 have hil : (icells hs).length = hs.length := by simp [icells]
 have c7 : w1.cell? ⟨w.heap.size, hs.length, none⟩ = some a := by rw [cell_blk e1]; simp [← hil]
 have c8 : w1.cell? ⟨w.heap.size, hs.length + 1, none⟩ = some b := by rw [cell_blk e1]; simp [← hil]
 have ff : ∀ k, w1.frozen? ⟨w.heap.size, k, none⟩ = false := fun k => frozen_of_row w1 _ k _ 3 e1
 have HE := hid (lentN_end e1 hB1)
 clear e1 hk1 he1 hrl hcur hab
 go_wp2
 go_ret
 exact ⟨rfl, HE.out⟩
def usedN (hs : List Int) (k : Nat) : Array Value := (icells (List.replicate k (-9)) ++ icells (hs.drop k) ++ icells [-7, -8]).toArray
theorem usedN_zero (hs : List Int) : usedN hs 0 = (icells hs ++ icells [-7, -8]).toArray := by simp [usedN, icells]
theorem usedN_at {hs : List Int} {k : Nat} (h : k ≤ hs.length) : (usedN hs k)[hs.length]? = some (.int .i64 (-7)) ∧ (usedN hs k)[hs.length + 1]? = some (.int .i64 (-8)) := by
 have e : (icells (List.replicate k (-9)) ++ icells (hs.drop k)).length = hs.length := by simp [icells]; omega
 unfold usedN
 constructor <;> (simp only [List.getElem?_toArray]; rw [List.getElem?_append_right (by omega), e]; simp [icells])
theorem usedN_get {hs : List Int} {k : Nat} {x : Int} (h : hs[k]? = some x) : (usedN hs k)[k]? = some (.int .i64 x) := by
 have hk := (List.getElem?_eq_some_iff.1 h).1
 unfold usedN
 simp only [List.getElem?_toArray]
 rw [List.append_assoc, List.getElem?_append_right (by simp [icells])]
 rw [List.getElem?_append_left (by simp [icells]; omega)]
 simp [icells, h]
theorem usedN_set {hs : List Int} {k : Nat} (h : k < hs.length) : (usedN hs k).setIfInBounds k (.int .i64 (-9)) = usedN hs (k + 1) := by
 unfold usedN
 rw [← Array.toList_inj, Array.toList_setIfInBounds]
 have e0 : hs.drop k = hs[k] :: hs.drop (k + 1) := List.drop_eq_getElem_cons h
 have e1 : icells (hs[k] :: hs.drop (k + 1)) = .int .i64 hs[k] :: icells (hs.drop (k + 1)) := rfl
 have e2 : (icells (List.replicate k (-9))).length = k := by simp [icells]
 have e3 : icells (List.replicate (k + 1) (-9)) = icells (List.replicate k (-9)) ++ [.int .i64 (-9)] := by simp [icells, List.replicate_succ']
 show ((icells (List.replicate k (-9)) ++ icells (hs.drop k)) ++ icells [-7, -8]).set k (.int .i64 (-9)) = (icells (List.replicate (k + 1) (-9)) ++ icells (hs.drop (k + 1))) ++ icells [-7, -8]
 rw [e0, e1, e3, List.append_assoc, List.set_append_right _ _ (by omega), e2, Nat.sub_self, List.append_assoc, List.append_assoc]
 rfl
set_option maxHeartbeats 2000000 in
theorem stillN_some (g : Nat) (ad : Addr) (c : Nat) (hs : List Int) (w : World) (hN : hs.length ≤ 1048576) (hg : w.heap[g]? = some (.cells (icells hs ++ icells [-7, -8]).toArray 3 (0, 0))) (hl : NumSl w (.slice (some ad) hs.length c) hs) (hne0 : hs ≠ [] → ad.block ≠ g) :
  Calls Tryz.prog 73 #[.slice (some ⟨g, 0, none⟩) hs.length (hs.length + 2), .slice (some ad) hs.length c] w fun e w' => e = .returned (.bool true) ∧ Keeps (fun k => k = g) w w' := by
 have hq := fun w => Lib.run_eql_slice_nil (P := Tryz.prog) w 28 3 (some ad) hs.length c 0 0 u28
 have HL : Hid (∀ k x, hs[k]? = some x → ∃ b o, ad = ⟨b, o, none⟩ ∧ b < w.heap.size ∧ hs.length ≤ c ∧ w.cell? ⟨b, o + k, none⟩ = some (.int .i64 x)) := by
  intro k x hx
  obtain ⟨a', c', hv, hh⟩ := hl
  simp only [Value.slice.injEq, true_and] at hv
  obtain ⟨rfl, rfl⟩ := hv
  rcases hh with rfl | ⟨b, o, hb, h1, h2, h3⟩
  ·simp at hx
  ·simp only [Option.some.injEq] at hb
   exact ⟨b, o, hb, h1, h2, h3 k x hx⟩
 rw [← usedN_zero] at hg
 have u7 : w.cell? ⟨g, hs.length, none⟩ = some (.int .i64 (-7)) := by rw [cell_blk hg]; exact (usedN_at (Nat.zero_le _)).1
 have u8 : w.cell? ⟨g, hs.length + 1, none⟩ = some (.int .i64 (-8)) := by rw [cell_blk hg]; exact (usedN_at (Nat.zero_le _)).2
 have HG := hid hg
 clear hl hg
 go_enter Tryz.func73, Tryz.ntmps73
 go_wp2
 go_loopw [6, 7] (fun ok i wr => ∃ k : Nat, k ≤ hs.length ∧ i = .int .i64 k ∧ ok = .bool true ∧ wr.heap[g]? = some (.cells (usedN hs k) 3 (0, 0)) ∧ Keeps (fun j => j = g) w wr) (fun _ i _ => hs.length - (intOf i).toNat)
 case atStart => exact ⟨0, Nat.zero_le _, rfl, rfl, HG.out, Keeps.refl _ _⟩
 case round =>
  obtain ⟨k, hk, rfl, rfl, hgr, hK⟩ := hrel
  by_cases hlt : k < hs.length
  ·obtain ⟨x, hx⟩ : ∃ x, hs[k]? = some x := ⟨hs[k], List.getElem?_eq_getElem hlt⟩
   have hne := hne0 (by rintro rfl; simp at hlt)
   obtain ⟨b, o, rfl, lb, hc, hcx0⟩ := HL.out k x hx
   have hcx : wr.cell? ⟨b, o + k, none⟩ = some (.int .i64 x) := (World.cell?_of_block (w := w) (a := ⟨b, o + k, none⟩) (hK.block b lb hne)).trans hcx0
   have hcg : wr.cell? ⟨g, k, none⟩ = some (.int .i64 x) := by rw [cell_blk hgr]; exact usedN_get hx
   have fg : ∀ j, wr.frozen? ⟨g, j, none⟩ = false := fun j => frozen_of_row wr g j _ 3 hgr
   have HR := hid hgr
   have HK := hid hK
   clear hcx0 hx hgr hK u7 u8
   go_wp2
   go_quiet (fail)
   go_wp2
   go_roundw
   case rel =>
    refine ⟨k + 1, hlt, by go_num, by simp, ?_, ?_⟩
    ·rw [← usedN_set hlt]
     exact heap_setCell_same _ g k _ 3 _ HR.out
    ·exact Keeps.set (W' := wr.drewN nq) ⟨HK.out.os, HK.out.tape, HK.out.output, HK.out.size, HK.out.block⟩ (.inl rfl) k _
   case measure => simp [intOf]; omega
  ·have HK := hid hK
   clear hK hgr u7 u8
   go_wp2
   go_ret
   exact ⟨rfl, HK.out⟩
set_option maxHeartbeats 1000000 in
theorem cut_any (n : Nat) (f : Int) (w : World) : Calls Tryz.prog 83 #[.int .i64 n, .int .i64 f] w fun e w' => e = .returned (.int .i64 (cutN f n)) ∧ w' = w := by
 unfold cutN
 by_cases h0 : f < 0
 ·rw [if_pos h0]
  have hd1 : decide ((0 : Int) > (n : Int)) = false := decide_eq_false (by omega)
  go_enter Tryz.func83, Tryz.ntmps83
  go_wp2
  go_ret
  exact ⟨rfl, rfl⟩
 ·rw [if_neg h0]
  have hd0 : decide (f < 0) = false := decide_eq_false h0
  by_cases h1 : (n : Int) < f
  ·rw [if_pos h1]
   go_enter Tryz.func83, Tryz.ntmps83
   go_wp2
   go_ret
   exact ⟨rfl, rfl⟩
  ·rw [if_neg h1]
   have hd1 : decide (f > (n : Int)) = false := decide_eq_false h1
   obtain ⟨i, rfl⟩ : ∃ i : Nat, f = (i : Int) := ⟨f.toNat, by omega⟩
   go_enter Tryz.func83, Tryz.ntmps83
   go_wp2
   go_ret
   exact ⟨rfl, rfl⟩
end Go.Proofs.YtefdokkadckbbaaGreatDoor
end
