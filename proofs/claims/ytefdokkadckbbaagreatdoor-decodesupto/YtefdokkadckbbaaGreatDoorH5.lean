/- The reader's labels. -/
import Derived.Test.YtefdokkadckbbaaGreatDoorH4
namespace Go.Proofs.YtefdokkadckbbaaGreatDoor
open Go.RowKit
set_option maxRecDepth 100000

theorem Only.grown {R : Nat} {a w w' : World} {row : Option Nat} (h : Only R a w) (hg : w.grownBy w' row) (hr : ∀ k, row = some k → a.heap.size ≤ k) : Only R a w' :=
  ⟨hg.os.trans h.os, hg.tape.trans h.tape, hg.output.trans h.output, Nat.le_trans h.size hg.size, fun k hk hne => (hg.block k (Nat.lt_of_lt_of_le hk h.size) (fun e => by have := hr k e.symm; omega)).trans (h.block k hk hne)⟩
theorem Rd.grown {R : Nat} {s : ByteArray} {n : Nat} {w w' : World} {row : Option Nat} (h : Rd R s n w) (hg : w.grownBy w' row) (hne : row ≠ some R) : Rd R s n w' := by
  unfold Rd; rw [hg.block R h.lt (fun e => hne e.symm)]; exact h

theorem lab_step {R : Nat} {s : ByteArray} {w wr w1 w2 : World} {ss : List ByteArray} {l : List UInt8} {v v' : Value} {o : Obj} {m : Nat} (hRw : R < w.heap.size)
    (hown : wr.ownsRow w.heap.size 9 1 v ss.length (ss.map Value.string)) (hon : Only R w wr) (o1 : Only R wr w1) (r1 : Rd R s m w1)
    (hown' : w2.ownsRow w.heap.size 9 1 v' (ss.length + 1) (ss.map Value.string ++ [.string (mk l)])) (hg : (w1.alloc o).grownBy w2 v.ownBlock) :
    w2.ownsRow w.heap.size 9 1 v' (ss ++ [mk l]).length ((ss ++ [mk l]).map Value.string) ∧ Rd R s m w2 ∧ Only R w w2 := by
  have hge := own_ge hown
  refine ⟨by simpa using hown', (r1.alloc o).grown hg (fun e => by have := hge R e; omega), ((hon.trans o1).alloc o).grown hg hge⟩

theorem ptr_step {R : Nat} {s : ByteArray} {w wr w1 w2 : World} {ss ss2 : List ByteArray} {v v' : Value} {m : Nat} (hRw : R < w.heap.size)
    (hown : wr.ownsRow w.heap.size 9 1 v ss.length (ss.map Value.string)) (hon : Only R w wr) (o1 : Only R wr w1) (r1 : Rd R s m w1)
    (hown' : w2.ownsRow w.heap.size 9 1 v' (ss.length + ss2.length) (ss.map Value.string ++ ss2.map Value.string)) (hg : w1.grownBy w2 v.ownBlock) :
    StrSl w2 v' (ss ++ ss2) ∧ Rd R s m w2 ∧ Only R w w2 := by
  have hge := own_ge hown
  refine ⟨StrSl_of_owns (base := w.heap.size) (by simpa using hown'), r1.grown hg (fun e => by have := hge R e; omega), (hon.trans o1).grown hg hge⟩

set_option maxHeartbeats 4000000 in
theorem labelsR (s : ByteArray) (hs : s.size ≤ 1000) : ∀ (n R : Nat) (w : World), n ≤ 1000 → Rd R s n w → Calls Tryz.prog 188 #[.pointer (some ⟨R, 0, none⟩)] w (LRes R s w (lblS (tl s) n n)) := by
  intro n
  induction n using Nat.strongRecOn with
  | _ n ih =>
  intro R w hn hr
  have HI : Hid (∀ p, p < n → ∀ R' w', Rd R' s p w' → Calls Tryz.prog 188 #[.pointer (some ⟨R', 0, none⟩)] w' (LRes R' s w' (lblS (tl s) p p))) := fun p hp R' w' hr' => ih p hp R' w' (by omega) hr'
  clear ih
  obtain ⟨i0, hi, hz0, hz1, hz2⟩ := info_parts info9
  have hRl := hr.lt
  obtain ⟨c0, c1, cf⟩ := hr.cells
  go_enter Tryz.func188, Tryz.ntmps188
  go_wp2
  clear c0 c1 cf
  go_loopg [4] (s.size + 1) (fun g v wr => ∃ (k : Nat) (ss : List ByteArray), s.size + 1 - k ≤ g ∧ ss.length + n ≤ k ∧ (ss ≠ [] → k ≤ s.size) ∧ wr.ownsRow w.heap.size 9 1 v ss.length (ss.map Value.string) ∧ Rd R s k wr ∧ Only R w wr ∧
      Aside (lblS (tl s) n n = (lblS (tl s) n k).map fun x => (ss.map tl ++ x.1, x.2)))
  case atStart => exact ⟨n, [], by omega, by simp, fun h => absurd rfl h, World.ownsRow_nil _ _ _ _, hr, Only.refl _ _, by show _ = _; simp⟩
  case round =>
    obtain ⟨k, ss, hg, hk, hks, hown, hrd, hon, hsp⟩ := hrel
    have HK : Hid (ss ≠ [] → k ≤ s.size) := hks
    clear hks
    have hss : ss.length ≤ 1000 := by
      by_cases e : ss = []
      · subst e; simp
      · have := HK.out e; omega
    cases h0 : byteS (tl s) k with
    | none =>
      have HN : Hid (lblS (tl s) n n = none) := by show _ = _; rw [hsp.out, lblS_none h0]; rfl
      go_wp2_with fail
      refine (Res.no (oneByteR R s k _ hrd hs) h0).mono ?_
      rintro e w1 ⟨rfl, o1⟩
      exact ⟨rfl, by rw [HN.out]; exact ⟨hon.trans o1, rfl⟩⟩
    | some x =>
      obtain ⟨a, m⟩ := x
      obtain ⟨ba0, ba1, hm, hkl⟩ := byteS_bd h0
      rw [tl_length] at hkl
      by_cases a0 : a = 0
      · subst a0
        have HN : Hid (lblS (tl s) n n = some (ss.map tl, m)) := by show _ = _; rw [hsp.out, lblS_end h0]; simp
        go_wp2_with fail
        refine (Res.ok (oneByteR R s k _ hrd hs) h0).mono ?_
        rintro e w1 ⟨rfl, r1, o1⟩
        have hown1 := hown.only o1 hRl
        go_wp2
        go_ret
        rw [HN.out]
        exact ⟨hon.trans o1, _, ss, rfl, rfl, StrSl_of_owns hown1, r1⟩
      by_cases a1 : a = 255
      · subst a1
        have e1 : Hid (lblS (tl s) n n = (ptrS (tl s) n m).map fun x => (ss.map tl ++ x.1, x.2)) := by show _ = _; rw [hsp.out, lblS_ptr h0]
        cases h1 : ptrS (tl s) n m with
        | none =>
          have HN : Hid (lblS (tl s) n n = none) := by show _ = _; rw [e1.out, h1]; rfl
          go_wp2_with fail
          refine (Res.ok (oneByteR R s k _ hrd hs) h0).mono ?_
          rintro e w1 ⟨rfl, r1, o1⟩
          go_wp2_with fail
          refine (LRes.no (belowR R s m n _ r1 hs HI.out) h1).mono ?_
          rintro e w2 ⟨rfl, o2⟩
          exact ⟨rfl, by rw [HN.out]; exact ⟨(hon.trans o1).trans o2, rfl⟩⟩
        | some y =>
          obtain ⟨l2, m2⟩ := y
          have HN : Hid (lblS (tl s) n n = some (ss.map tl ++ l2, m2)) := by show _ = _; rw [e1.out, h1]; rfl
          have hl2 : l2.length ≤ 1000000 := by
            unfold ptrS at h1
            cases hp : byteS (tl s) m with
            | none => rw [hp] at h1; cases h1
            | some p =>
              obtain ⟨p, m3⟩ := p
              have hpb := byteS_bd hp
              rw [hp, Option.bind_some] at h1
              simp only at h1
              by_cases hlt : p.toNat < n
              · rw [if_pos hlt] at h1
                cases hq : lblS (tl s) p.toNat p.toNat with
                | none => rw [hq] at h1; cases h1
                | some z =>
                  obtain ⟨l', m'⟩ := z
                  have := (lblS_len _ _ _ _ _ hq).1
                  rw [hq] at h1
                  simp only [Option.map_some, Option.some.injEq, Prod.mk.injEq] at h1
                  obtain ⟨rfl, rfl⟩ := h1
                  rw [tl_length] at this
                  have h3 : p.toNat * s.size ≤ 255 * 1000 := Nat.mul_le_mul (by omega) hs
                  omega
              · rw [if_neg hlt] at h1; cases h1
          go_wp2_with fail
          refine (Res.ok (oneByteR R s k _ hrd hs) h0).mono ?_
          rintro e w1 ⟨rfl, r1, o1⟩
          go_wp2_with fail
          refine (LRes.ok (belowR R s m n _ r1 hs HI.out) h1).mono ?_
          rintro e w2 ⟨v2, ss2, rfl, hmap2, hsl2, r2, o2⟩
          have hown2 := hown.only (o1.trans o2) hRl
          have HM2 : Hid (ss2.map tl = l2) := hmap2
          have hs2l : ss2.length ≤ 1000000 := by
            have : ss2.length = l2.length := by rw [← hmap2, List.length_map]
            omega
          clear hmap2
          rcases hsl2 with ⟨rfl, rfl⟩ | ⟨g2, o2', c2, rfl, hg2, hc2, hcell2⟩
          · go_wp2_with (first
              | (at_builtin; refine wpList_append_own_none rfl _ _ 42 rfl w.heap.size 9 i0 1 u106 hi _ _ _ rfl hown2 rfl ?_))
            go_ret
            rw [HN.out]
            exact ⟨(hon.trans o1).trans o2, _, ss, rfl, by rw [← HM2.out]; simp, StrSl_of_owns hown2, r2⟩
          · have HC2 : Hid (∀ j x, ss2[j]? = some x → w2.cell? ⟨g2, o2' + j, none⟩ = some (.string x)) := hcell2
            clear hcell2
            go_wp2_with (first
              | (at_builtin; refine wpList_append_own _ rfl _ _ 42 rfl w.heap.size 9 i0 (.string ByteArray.empty) 1 16 u106 hi hz0 hz1 hz2 rfl (by decide) _ _ _ rfl hown2 ⟨g2, o2', none⟩ ss2.length c2 (ss2.map Value.string) rfl (by simp) ?c1 ?c2 ?c3 ?c4 ?c5 ?_))
            case c1 =>
              intro j u hj
              have e : (⟨g2, o2', none⟩ : Addr).add j = ⟨g2, o2' + j, none⟩ := by unfold Addr.add; split <;> simp_all
              rw [e]
              rw [List.getElem?_map] at hj
              cases hq : ss2[j]? with
              | none => rw [hq] at hj; cases hj
              | some q => rw [hq] at hj; simp at hj; subst hj; exact HC2.out j q hq
            case c2 => intro u hu; obtain ⟨q, _, rfl⟩ := List.mem_map.1 hu; rfl
            case c3 => unfold maxLen; omega
            case c4 => omega
            case c5 => have := hon.size; have := o1.size; have := o2.size; omega
            intro v' w3 hown' hgrow _
            have R3 := ptr_step hRl hown hon (o1.trans o2) r2 hown' hgrow
            clear hown' hgrow hown hown2
            go_wp2
            go_ret
            rw [HN.out]
            exact ⟨R3.2.2, v', ss ++ ss2, rfl, by rw [← HM2.out]; simp, R3.1, R3.2.1⟩
      · have e1 : Hid (lblS (tl s) n n = ((labelS (tl s) a m).bind fun l => (lblS (tl s) n l.2).map fun x => (l.1 :: x.1, x.2)).map fun x => (ss.map tl ++ x.1, x.2)) := by show _ = _; rw [hsp.out, lblS_lab h0 a0 a1]
        cases h1 : labelS (tl s) a m with
        | none =>
          have HN : Hid (lblS (tl s) n n = none) := by show _ = _; rw [e1.out, h1]; rfl
          go_wp2_with fail
          refine (Res.ok (oneByteR R s k _ hrd hs) h0).mono ?_
          rintro e w1 ⟨rfl, r1, o1⟩
          go_wp2_with fail
          refine (Res.no (labelR R s m a _ r1 hs) h1).mono ?_
          rintro e w2 ⟨rfl, o2⟩
          exact ⟨rfl, by rw [HN.out]; exact ⟨(hon.trans o1).trans o2, rfl⟩⟩
        | some y =>
          obtain ⟨l, m3⟩ := y
          obtain ⟨hm3, _, hla, _, _⟩ := labelS_bd h1
          have hm3s : m3 ≤ s.size := by
            unfold labelS at h1
            by_cases ha : 1 ≤ a ∧ a ≤ 6
            · rw [if_pos ha] at h1
              have := (lettersS_bd _ _ h1).2.2.2
              have := (lettersS_bd _ _ h1).1
              rw [tl_length] at *
              omega
            · rw [if_neg ha] at h1; cases h1
          have HNX : Hid (lblS (tl s) n n = (lblS (tl s) n m3).map fun x => ((ss ++ [mk l]).map tl ++ x.1, x.2)) := by
            show _ = _
            rw [e1.out, h1, Option.bind_some]
            cases lblS (tl s) n m3 <;> simp [tl_mk']
          go_wp2_with fail
          refine (Res.ok (oneByteR R s k _ hrd hs) h0).mono ?_
          rintro e w1 ⟨rfl, r1, o1⟩
          go_wp2_with fail
          refine (Res.ok (labelR R s m a _ r1 hs) h1).mono ?_
          rintro e w2 ⟨rfl, r2, o2⟩
          have hown2 := hown.only (o1.trans o2) hRl
          go_wp2_with (first
            | (at_builtin; refine wpList_append_own _ rfl _ _ 42 rfl w.heap.size 9 i0 (.string ByteArray.empty) 1 16 u106 hi hz0 hz1 hz2 rfl (by decide) _ _ _ rfl (hown2.alloc _) ⟨w2.heap.size, 0, none⟩ 1 1 [.string (mk l)] rfl rfl ?d1 ?d2 ?d3 ?d4 ?d5 ?_))
          case d1 =>
            intro j u hj
            match j, hj with
            | 0, hj => simp at hj; subst hj; simp [Addr.add]
          case d2 => intro u hu; simp at hu; subst hu; rfl
          case d3 => unfold maxLen; omega
          case d4 => omega
          case d5 => have := hon.size; have := o1.size; have := o2.size; simp; omega
          intro v' w3 hown' hgrow _
          have R3 := lab_step hRl hown hon (o1.trans o2) r2 hown' hgrow
          clear hown' hgrow hown hown2
          go_wp2
          go_roundg (s.size + 1 - m3)
          case rel => exact ⟨m3, ss ++ [mk l], Nat.le_refl _, by simp; omega, fun _ => hm3s, R3.1, R3.2.1, R3.2.2, HNX.out⟩
          case measure => omega
end Go.Proofs.YtefdokkadckbbaaGreatDoor
