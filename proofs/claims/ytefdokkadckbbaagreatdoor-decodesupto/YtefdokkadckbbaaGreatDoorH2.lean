/- The reader's label. -/
import Derived.Test.YtefdokkadckbbaaGreatDoorH1
namespace Go.Proofs.YtefdokkadckbbaaGreatDoor
open Go.RowKit
set_option maxRecDepth 100000

theorem letS_bd {t : List UInt8} {n : Nat} {x : Int} {m : Nat} (h : letS t n = some (x, m)) : 97 ≤ x ∧ x ≤ 122 ∧ m = n + 1 ∧ n < t.length := by
  unfold letS at h
  cases h0 : byteS t n with
  | none => rw [h0] at h; cases h
  | some a =>
    obtain ⟨a, k⟩ := a
    have hb := byteS_bd h0
    rw [h0, Option.bind_some] at h
    simp only at h
    by_cases h1 : 65 ≤ a ∧ a ≤ 90
    · rw [if_pos h1] at h; simp only [Option.some.injEq, Prod.mk.injEq] at h; omega
    · rw [if_neg h1] at h
      by_cases h2 : 97 ≤ a ∧ a ≤ 122
      · rw [if_pos h2] at h; simp only [Option.some.injEq, Prod.mk.injEq] at h; omega
      · rw [if_neg h2] at h; cases h

/-- k letters. -/
def lettersS (t : List UInt8) : Nat → Nat → Option (List UInt8 × Nat)
  | 0, n => some ([], n)
  | k + 1, n => (letS t n).bind fun a => (lettersS t k a.2).map fun l => (UInt8.ofNat a.1.toNat :: l.1, l.2)
/-- A label of that length. -/
def labelS (t : List UInt8) (len : Int) (n : Nat) : Option (List UInt8 × Nat) := if 1 ≤ len ∧ len ≤ 6 then lettersS t len.toNat n else none

def lcells (acc : List UInt8) (m : Nat) : List Value := acc.map (fun b => Value.int .u8 (b.toNat : Int)) ++ List.replicate m (.int .u8 0)
theorem lcells_set (acc : List UInt8) (m : Nat) (x : Int) (hx : 97 ≤ x ∧ x ≤ 122) : (lcells acc (m + 1)).set acc.length (.int .u8 x) = lcells (acc ++ [UInt8.ofNat x.toNat]) m := by
  unfold lcells
  rw [List.set_append_right _ _ (by simp)]
  have e : (((UInt8.ofNat x.toNat).toNat : Nat) : Int) = x := by
    rw [UInt8.toNat_ofNat']; omega
  rw [List.map_append, List.length_map, Nat.sub_self, List.replicate_succ, List.set_cons_zero, List.map_cons, List.map_nil, e]
  simp
theorem _root_.Go.World.ownsRow.only {R : Nat} {w w' : World} {base : Nat} {e : TypeId} {size : Nat} {v : Value} {n : Nat} {xs : List Value} (h : w.ownsRow base e size v n xs) (ho : Only R w w') (hR : R < base) : w'.ownsRow base e size v n xs := by
  obtain ⟨hl, h | ⟨g, cap, cur, hv, hg, hh, r⟩⟩ := h
  · exact ⟨hl, .inl h⟩
  · exact ⟨hl, .inr ⟨g, cap, cur, hv, hg, (by rw [ho.block g (Array.getElem?_eq_some_iff.1 hh).1 (by omega)]; exact hh), r⟩⟩
theorem Rd.row {R : Nat} {s : ByteArray} {n : Nat} {w : World} (h : Rd R s n w) {g : Nat} (hne : R ≠ g) (k : Nat) (v : Value) : Rd R s n (w.setCell ⟨g, k, none⟩ v) := by
  unfold Rd; rw [Below.heap_setCell w ⟨g, k, none⟩ v R hne]; exact h
theorem Only.row {R : Nat} {a w : World} (h : Only R a w) {g : Nat} (hg : a.heap.size ≤ g) (k : Nat) (v : Value) : Only R a (w.setCell ⟨g, k, none⟩ v) :=
  ⟨h.os, h.tape, h.output, by simpa using h.size, fun i hi hne => by rw [Below.heap_setCell w ⟨g, k, none⟩ v i (by show i ≠ g; omega)]; exact h.block i hi hne⟩

theorem label_conv (w wr : World) (acc : List UInt8) (cap : Nat) (hown : wr.ownsRow w.heap.size 5 1 (.slice (some ⟨w.heap.size, 0, none⟩) acc.length cap) acc.length (lcells acc 0)) :
    (convert 336 9 (.slice (some ⟨w.heap.size, 0, none⟩) acc.length cap)).run Tryz.prog wr = .ok (.string (mk acc)) wr := by
  refine run_convert_bytes_back wr 336 9 5 ⟨w.heap.size, 0, none⟩ cap acc u137 u5 u9 fun j hj => ?_
  have e : (⟨w.heap.size, 0, none⟩ : Addr).add j = ⟨w.heap.size, j, none⟩ := by unfold Addr.add; split <;> simp_all
  rw [e, hown.cellAt j (by omega)]
  simp [lcells, hj]

theorem info5' : (Tryz.prog.info? 5).map (fun i => (i.zero, i.size, i.bytes)) = some (some (.int .u8 0), 1, 1) := by kernel_rfl

set_option maxHeartbeats 2000000 in
theorem labelR (R : Nat) (s : ByteArray) (n : Nat) (len : Int) (w : World) (hr : Rd R s n w) (hs : s.size ≤ 1000) :
    Calls Tryz.prog 259 #[.pointer (some ⟨R, 0, none⟩), .int .i64 len] w (Res R s w (fun l => Value.string (mk l)) (labelS (tl s) len n)) := by
  by_cases hl : 1 ≤ len ∧ len ≤ 6
  · obtain ⟨i0, hi, hz0, hz1, hz2⟩ := info_parts info5'
    have hd : (decide (1 ≤ len) && decide (len ≤ 6)) = true := by simp [hl]
    obtain ⟨k, rfl⟩ : ∃ k : Nat, len = k := ⟨len.toNat, by omega⟩
    rw [show labelS (tl s) (k : Int) n = lettersS (tl s) k n by unfold labelS; rw [if_pos hl]; rfl]
    have hRl := hr.lt
    go_enter Tryz.func259, Tryz.ntmps259
    go_wp2_with fail
    refine (between_any _ _ _ _).mono ?_
    rw [hd]
    rintro e w' ⟨rfl, rfl⟩
    go_wp2_with fail
    refine (must_ok _).mono ?_
    rintro e w' ⟨rfl, rfl⟩
    go_wp2_with (at_make; refine wpList_make_full _ rfl _ _ 336 rfl w'.heap.size 5 i0 (.int .u8 0) 1 u137 hi hz0 hz1 _ _ _ _ k rfl rfl rfl rfl ?b2 ?b3 (Nat.le_refl _) ?_)
    case b2 => rw [hz2]; omega
    case b3 => unfold maxLen; omega
    intro w0 hown0 hgrow0
    have hB0 : Below w'.heap.size w' w0 := (Below.refl _ _).grown hgrow0 (Nat.le_refl _) (fun k h => by cases h)
    have hr0 := hr.below hB0
    clear hgrow0
    have hk6 : k ≤ 6 := by omega
    go_wp2
    go_loopw [14] (fun i wr => ∃ (j : Nat) (acc : List UInt8), j ≤ k ∧ acc.length = j ∧ i = .int .i64 j ∧ wr.ownsRow w'.heap.size 5 1 (.slice (some ⟨w'.heap.size, 0, none⟩) k k) k (lcells acc (k - j)) ∧ Rd R s (n + j) wr ∧ Only R w' wr ∧
        lettersS (tl s) k n = (lettersS (tl s) (k - j) (n + j)).map fun x => (acc ++ x.1, x.2)) (fun i _ => k - (intOf i).toNat)
    case atStart => exact ⟨0, [], Nat.zero_le _, rfl, rfl, by rw [toList_madeCells_one] at hown0; exact hown0, hr0, Only.ofBelow hB0, by simp⟩
    case round =>
      obtain ⟨j, acc, hj, hja, rfl, hown, hrd, hon, hsp⟩ := hrel
      have HSP : Hid (lettersS (tl s) k n = (lettersS (tl s) (k - j) (n + j)).map fun x => (acc ++ x.1, x.2)) := hsp
      have HJA : Hid (acc.length = j) := hja
      clear hsp hja
      by_cases hlt : j < k
      · cases h0 : letS (tl s) (n + j) with
        | none =>
          have HN : Hid (lettersS (tl s) k n = none) := by
            show _ = _
            rw [HSP.out, show k - j = (k - j - 1) + 1 by omega]
            simp [lettersS, h0]
          go_wp2_with fail
          refine (Res.no (letterR R s (n + j) _ hrd hs) h0).mono ?_
          rintro e w1 ⟨rfl, o1⟩
          exact ⟨rfl, by rw [HN.out]; exact ⟨hon.trans o1, rfl⟩⟩
        | some x =>
          obtain ⟨x, m⟩ := x
          obtain ⟨x0, x1, hm, _⟩ := letS_bd h0
          subst hm
          go_wp2_with fail
          refine (Res.ok (letterR R s (n + j) _ hrd hs) h0).mono ?_
          rintro e w1 ⟨rfl, r1, o1⟩
          have hown1 := hown.only o1 hRl
          have hfz := hown1.frozenAt j
          obtain ⟨u, hu⟩ : ∃ u, w1.cell? ⟨w'.heap.size, j, none⟩ = some u := by
            rw [hown1.cellAt j (by omega)]
            exact ⟨_, List.getElem?_eq_getElem (by have := HJA.out; simp [lcells]; omega)⟩
          have HO : Hid ((w1.setCell ⟨w'.heap.size, j, none⟩ (.int .u8 x)).ownsRow w'.heap.size 5 1 (.slice (some ⟨w'.heap.size, 0, none⟩) k k) k (lcells (acc ++ [UInt8.ofNat x.toNat]) (k - (j + 1)))) := by
            have h2 := (hown1.stored j (.int .u8 x)).1
            have e2 : (lcells acc (k - j)).set j (.int .u8 x) = lcells (acc ++ [UInt8.ofNat x.toNat]) (k - (j + 1)) := by
              rw [show k - j = (k - (j + 1)) + 1 by omega, ← HJA.out]
              exact lcells_set acc _ x ⟨x0, x1⟩
            rw [e2] at h2
            exact h2
          have HNX : Hid (lettersS (tl s) k n = (lettersS (tl s) (k - (j + 1)) (n + (j + 1))).map fun y => ((acc ++ [UInt8.ofNat x.toNat]) ++ y.1, y.2)) := by
            show _ = _
            rw [HSP.out, show k - j = (k - (j + 1)) + 1 by omega]
            simp only [lettersS, h0, Option.bind_some]
            rw [show n + (j + 1) = n + j + 1 by omega]
            cases lettersS (tl s) (k - (j + 1)) (n + j + 1) <;> simp
          have HR : Hid (Rd R s (n + (j + 1)) (w1.setCell ⟨w'.heap.size, j, none⟩ (.int .u8 x))) := (show Rd R s (n + (j + 1)) w1 from r1).row (by omega) _ _
          have HOn : Hid (Only R w' (w1.setCell ⟨w'.heap.size, j, none⟩ (.int .u8 x))) := (hon.trans o1).row (Nat.le_refl _) _ _
          clear hown hown1 hrd r1
          go_wp2
          go_roundw
          case rel => exact ⟨j + 1, acc ++ [UInt8.ofNat x.toNat], hlt, by have := HJA.out; simp; omega, by go_num, HO.out, HR.out, HOn.out, HNX.out⟩
          case measure => simp [intOf]; omega
      · have hjk : j = k := by omega
        have hk0 : k - j = 0 := by omega
        have hal : acc.length = k := by rw [HJA.out]; exact hjk
        have HY : Hid (lettersS (tl s) k n = some (acc, n + j)) := by
          show _ = _
          rw [HSP.out, hk0]; simp [lettersS]
        have hcv : (convert 336 9 (.slice (some ⟨w'.heap.size, 0, none⟩) k k)).run Tryz.prog wr = .ok (.string (mk acc)) wr := by
          rw [hk0] at hown
          have := label_conv w' wr acc k (by rw [hal]; exact hown)
          rw [hal] at this
          exact this
        clear hown hjk hk0 hal
        go_wp2
        go_ret
        rw [HY.out]
        exact ⟨hon, rfl, hrd⟩
  · have hd : (decide (1 ≤ len) && decide (len ≤ 6)) = false := by rw [Bool.and_eq_false_iff]; simp; omega
    rw [show labelS (tl s) len n = none by unfold labelS; rw [if_neg hl]]
    go_enter Tryz.func259, Tryz.ntmps259
    go_wp2_with fail
    refine (between_any _ _ _ _).mono ?_
    rw [hd]
    rintro e w' ⟨rfl, rfl⟩
    go_wp2_with fail
    refine (must_no _).mono ?_
    rintro e w' ⟨rfl, rfl⟩
    exact ⟨rfl, Only.refl _ _, rfl⟩
end Go.Proofs.YtefdokkadckbbaaGreatDoor
