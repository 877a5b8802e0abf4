/- The reader's list. -/
import Derived.Test.YtefdokkadckbbaaGreatDoorH7
import Derived.Test.YtefdokkadckbbaaGreatDoorD2
namespace Go.Proofs.YtefdokkadckbbaaGreatDoor
open Go.RowKit
set_option maxRecDepth 100000

/-- k records, read. -/
def recsS (t : List UInt8) : Nat → Nat → Option (List Rec × Nat)
  | 0, n => some ([], n)
  | k + 1, n => (recS t n).bind fun r => (recsS t k r.2).map fun l => (r.1 :: l.1, l.2)

theorem saidS_bd {t nm : List UInt8} {ty ttl : Int} {n : Nat} {r : Rec} {m : Nat} (h : saidS t nm ty ttl n = some (r, m)) (hn : n ≤ t.length) : n ≤ m ∧ m ≤ t.length := by
  unfold saidS at h
  split at h
  · cases h0 : byteS t n with
    | none => rw [h0] at h; cases h
    | some x =>
      obtain ⟨b, k⟩ := x
      have := byteS_bd h0
      rw [h0] at h
      simp only [Option.map_some, Option.some.injEq, Prod.mk.injEq] at h; omega
  · split at h
    · cases h0 : nameS t n with
      | none => rw [h0] at h; cases h
      | some x =>
        obtain ⟨b, k⟩ := x
        have := nameS_bd h0
        rw [h0] at h
        simp only [Option.map_some, Option.some.injEq, Prod.mk.injEq] at h; omega
    · simp only [Option.some.injEq, Prod.mk.injEq] at h; omega
theorem recS_bd {t : List UInt8} {n : Nat} {r : Rec} {m : Nat} (h : recS t n = some (r, m)) : n < m ∧ m ≤ t.length := by
  unfold recS at h
  cases h0 : nameS t n with
  | none => rw [h0] at h; cases h
  | some x =>
    obtain ⟨nm, m0⟩ := x
    have b0 := nameS_bd h0
    rw [h0, Option.bind_some] at h
    simp only at h
    cases h1 : numS t 1 4 m0 with
    | none => rw [h1] at h; cases h
    | some x =>
      obtain ⟨ty, m1⟩ := x
      have b1 := numS_bd h1
      rw [h1, Option.bind_some] at h
      simp only at h
      cases h2 : twoS t m1 with
      | none => rw [h2] at h; cases h
      | some x =>
        obtain ⟨ttl, m2⟩ := x
        have b2 := twoS_bd h2
        rw [h2, Option.bind_some] at h
        simp only at h
        split at h
        · have := saidS_bd h (by omega); omega
        · cases h

/-- What the reader's list does: records in new memory, or it gives up. -/
def KRes (R : Nat) (s : ByteArray) (w : World) (o : Option (List Rec × Nat)) (e : Ending) (w' : World) : Prop :=
  Only R w w' ∧ (match o with | some x => ∃ v, e = .returned v ∧ w'.ownsRow w.heap.size 71 5 v x.1.length (rcells x.1) ∧ Rd R s x.2 w' | none => e = .panicked gaveUp)
theorem KRes.ok {R : Nat} {s : ByteArray} {w : World} {o : Option (List Rec × Nat)} {f : FuncId} {args : Array Value} (h : Calls Tryz.prog f args w (KRes R s w o)) {l : List Rec} {n : Nat} (ho : o = some (l, n)) :
    Calls Tryz.prog f args w fun e w' => ∃ v, e = .returned v ∧ w'.ownsRow w.heap.size 71 5 v l.length (rcells l) ∧ Rd R s n w' ∧ Only R w w' := by
  subst ho; exact h.mono fun e w' ⟨h1, v, h2, h3, h4⟩ => ⟨v, h2, h3, h4, h1⟩
theorem KRes.no {R : Nat} {s : ByteArray} {w : World} {o : Option (List Rec × Nat)} {f : FuncId} {args : Array Value} (h : Calls Tryz.prog f args w (KRes R s w o)) (ho : o = none) :
    Calls Tryz.prog f args w fun e w' => e = .panicked gaveUp ∧ Only R w w' := by
  subst ho; exact h.mono fun e w' ⟨h1, h2⟩ => ⟨h2, h1⟩

theorem own_ge5 {w : World} {base : Nat} {v : Value} {n : Nat} {xs : List Value} (h : w.ownsRow base 71 5 v n xs) : ∀ k, v.ownBlock = some k → base ≤ k := fun k hk => (h.lt k hk).1
theorem kl_step {R : Nat} {s : ByteArray} {w wr w1 w2 : World} {rs : List Rec} {r : Rec} {v v' : Value} {o : Obj} {m : Nat} (hRw : R < w.heap.size)
    (hown : wr.ownsRow w.heap.size 71 5 v rs.length (rcells rs)) (hon : Only R w wr) (o1 : Only R wr w1) (r1 : Rd R s m w1)
    (hown' : w2.ownsRow w.heap.size 71 5 v' (rs.length + 1) (rcells rs ++ rc1 r)) (hg : (w1.alloc o).grownBy w2 v.ownBlock) :
    w2.ownsRow w.heap.size 71 5 v' (rs ++ [r]).length (rcells (rs ++ [r])) ∧ Rd R s m w2 ∧ Only R w w2 := by
  have hge := own_ge5 hown
  refine ⟨?_, (r1.alloc o).grown hg (fun e => by have := hge R e; omega), ((hon.trans o1).alloc o).grown hg hge⟩
  rw [rcells_append]
  simpa [rcells] using hown'

set_option maxHeartbeats 2000000 in
theorem listR (R : Nat) (s : ByteArray) (n k : Nat) (w : World) (hr : Rd R s n w) (hs : s.size ≤ 1000) (hn : n ≤ s.size) (hk : k ≤ 10) :
    Calls Tryz.prog 141 #[.pointer (some ⟨R, 0, none⟩), .int .i64 (k : Int)] w (KRes R s w (recsS (tl s) k n)) := by
  by_cases k0 : k = 0
  · subst k0
    go_enter Tryz.func141, Tryz.ntmps141
    go_wp2
    go_ret
    exact ⟨Only.refl _ _, _, rfl, World.ownsRow_nil _ _ _ _, hr⟩
  obtain ⟨i0, hi, hz0, hz1, hz2⟩ := info_parts info91
  have hRl := hr.lt
  have hk0 : ((k : Int) == 0) = false := by simp; omega
  go_enter Tryz.func141, Tryz.ntmps141
  go_wp2_with (at_make; refine wpList_make_own _ rfl _ _ 25 rfl w.heap.size 71 i0 (.agg #[.string ByteArray.empty, .int .i64 0, .int .i64 0, .int .i64 0, .string ByteArray.empty]) 5 u39 hi hz0 hz1 _ _ _ k rfl rfl rfl ?b2 ?b3 (Nat.le_refl _) ?_)
  case b2 => rw [hz2]; omega
  case b3 => unfold maxLen; omega
  intro w0 hown0 hgrow0
  have hB0 : Below w.heap.size w w0 := (Below.refl _ _).grown hgrow0 (Nat.le_refl _) (fun k h => by cases h)
  have hr0 := hr.below hB0
  clear hgrow0
  go_wp2
  go_loopw [5, 11] (fun v i wr => ∃ (j m : Nat) (rs : List Rec), j ≤ k ∧ rs.length = j ∧ m ≤ s.size ∧ i = .int .i64 j ∧ wr.ownsRow w.heap.size 71 5 v rs.length (rcells rs) ∧ Rd R s m wr ∧ Only R w wr ∧
      recsS (tl s) k n = (recsS (tl s) (k - j) m).map fun x => (rs ++ x.1, x.2)) (fun _ i _ => k - (intOf i).toNat)
  case atStart => exact ⟨0, n, [], Nat.zero_le _, rfl, hn, rfl, hown0, hr0, Only.ofBelow hB0, by simp⟩
  case round =>
    obtain ⟨j, m, rs, hj, hjr, hm, rfl, hown, hrd, hon, hsp⟩ := hrel
    have HSP : Hid (recsS (tl s) k n = (recsS (tl s) (k - j) m).map fun x => (rs ++ x.1, x.2)) := hsp
    have HJ : Hid (rs.length = j) := hjr
    have hrl : rs.length ≤ 10 := by omega
    clear hsp hjr
    by_cases hlt : j < k
    · cases h0 : recS (tl s) m with
      | none =>
        have HN : Hid (recsS (tl s) k n = none) := by
          show _ = _
          rw [HSP.out, show k - j = (k - j - 1) + 1 by omega]
          simp [recsS, h0]
        go_wp2_with fail
        refine (Res.no (recordR R s m _ hrd hs (by omega)) h0).mono ?_
        rintro e w1 ⟨rfl, o1⟩
        exact ⟨rfl, by rw [HN.out]; exact ⟨hon.trans o1, rfl⟩⟩
      | some x =>
        obtain ⟨r, m1⟩ := x
        obtain ⟨bm, bm1⟩ := recS_bd h0
        rw [tl_length] at bm1
        have HNX : Hid (recsS (tl s) k n = (recsS (tl s) (k - (j + 1)) m1).map fun x => ((rs ++ [r]) ++ x.1, x.2)) := by
          show _ = _
          rw [HSP.out, show k - j = (k - (j + 1)) + 1 by omega]
          simp only [recsS, h0, Option.bind_some]
          cases recsS (tl s) (k - (j + 1)) m1 <;> simp
        go_wp2_with fail
        refine (Res.ok (recordR R s m _ hrd hs (by omega)) h0).mono ?_
        rintro e w1 ⟨rfl, r1, o1⟩
        have hown1 := hown.only o1 hRl
        obtain ⟨c0, c1, c2, c3, c4⟩ := r
        unfold recV
        go_wp2_with (first
            | (at_builtin; refine wpList_append_own _ rfl _ _ 25 rfl w.heap.size 71 i0 (.agg #[.string ByteArray.empty, .int .i64 0, .int .i64 0, .int .i64 0, .string ByteArray.empty]) 5 56 u39 hi hz0 hz1 hz2 rfl (by decide) _ _ _ rfl (hown1.alloc _) ⟨w1.heap.size, 0, none⟩ 1 1 (rc1 ⟨c0, c1, c2, c3, c4⟩) rfl rfl ?d1 ?d2 ?d3 ?d4 ?d5 ?_))
        case d1 =>
          intro j u hj
          have e : (⟨w1.heap.size, 0, none⟩ : Addr).add j = ⟨w1.heap.size, j, none⟩ := by unfold Addr.add; split <;> simp_all
          rw [e]
          simpa [rc1] using hj
        case d2 => exact rc1_one _
        case d3 => unfold maxLen; omega
        case d4 => omega
        case d5 => have := hon.size; have := o1.size; simp; omega
        intro v' w3 hown' hgrow _
        have R3 := kl_step hRl hown hon o1 r1 hown' hgrow
        clear hown' hgrow hown hown1
        go_wp2
        go_roundw
        case rel => exact ⟨j + 1, m1, rs ++ [⟨c0, c1, c2, c3, c4⟩], hlt, by have := HJ.out; simp; omega, bm1, by go_num, R3.1, R3.2.1, R3.2.2, HNX.out⟩
        case measure => simp [intOf]; omega
    · have hk' : k - j = 0 := by omega
      have HY : Hid (recsS (tl s) k n = some (rs, m)) := by show _ = _; rw [HSP.out, hk']; simp [recsS]
      clear hk'
      go_wp2
      go_ret
      rw [HY.out]
      exact ⟨hon, _, rfl, hown, hrd⟩
end Go.Proofs.YtefdokkadckbbaaGreatDoor
