/- The reference's records: a list, written. -/
import Derived.Test.YtefdokkadckbbaaGreatDoorC2
namespace Go.Proofs.YtefdokkadckbbaaGreatDoor
open Go.RowKit
set_option maxRecDepth 100000

theorem recOk_cases {r : Rec} (h : recOk r = true) : nameOk (tl r.name) = true ∧ (1 ≤ r.ttl ∧ r.ttl ≤ 1000) ∧ ((r.ty = 1 ∧ 0 ≤ r.num ∧ r.num ≤ 255) ∨ (r.ty = 2 ∧ nameOk (tl r.target) = true) ∨ (r.ty = 3 ∧ nameOk (tl r.target) = true) ∨ r.ty = 4) := by
  unfold recOk at h
  simp only [Bool.and_eq_true, decide_eq_true_eq] at h
  refine ⟨h.1.1, h.1.2, ?_⟩
  have hs := h.2
  unfold saysOk at hs
  by_cases t1 : r.ty = 1
  · rw [if_pos t1] at hs
    simp only [Bool.and_eq_true, decide_eq_true_eq] at hs
    exact .inl ⟨t1, hs.1⟩
  rw [if_neg t1] at hs
  by_cases t2 : r.ty = 2 ∨ r.ty = 3
  · rw [if_pos t2] at hs
    simp only [Bool.and_eq_true, decide_eq_true_eq] at hs
    rcases t2 with t | t
    · exact .inr (.inl ⟨t, hs.2⟩)
    · exact .inr (.inr (.inl ⟨t, hs.2⟩))
  rw [if_neg t2] at hs
  by_cases t4 : r.ty = 4
  · exact .inr (.inr (.inr t4))
  · rw [if_neg t4] at hs; cases hs

theorem keep5 {g o : Nat} {W0 wA wB : World} {v0 v1 v2 v3 v4 : Value} (hg : g < W0.heap.size)
    (h : wA.cell? ⟨g, o, none⟩ = some v0 ∧ wA.cell? ⟨g, o + 1, none⟩ = some v1 ∧ wA.cell? ⟨g, o + 2, none⟩ = some v2 ∧ wA.cell? ⟨g, o + 3, none⟩ = some v3 ∧ wA.cell? ⟨g, o + 4, none⟩ = some v4 ∧ Below W0.heap.size W0 wA) (hb : Below wA.heap.size wA wB) :
    wB.cell? ⟨g, o, none⟩ = some v0 ∧ wB.cell? ⟨g, o + 1, none⟩ = some v1 ∧ wB.cell? ⟨g, o + 2, none⟩ = some v2 ∧ wB.cell? ⟨g, o + 3, none⟩ = some v3 ∧ wB.cell? ⟨g, o + 4, none⟩ = some v4 ∧ Below W0.heap.size W0 wB := by
  obtain ⟨h0, h1, h2, h3, h4, h5⟩ := h
  have hlt : g < wA.heap.size := Nat.lt_of_lt_of_le hg h5.size
  simp only [hb.cell (p := ⟨g, _, none⟩) hlt]
  exact ⟨h0, h1, h2, h3, h4, h5.trans (hb.mono h5.size)⟩

theorem listW_next {rs : List Rec} {k : Nat} {x : Rec} (h : rs[k]? = some x) : listW (rs.take (k + 1)) = listW (rs.take k) ++ recW x := by
  rw [List.take_add_one, h]; simp [listW]

theorem rec_str {rs : List Rec} {k : Nat} {x : Rec} {acc acc2 : ByteArray} {l : List UInt8} (ha : acc = mk (listW (rs.take k))) (hx : rs[k]? = some x)
    (h2 : acc2 = acc ++ mk (nameW (tl x.name)) ++ mk [byte x.ty, byte x.ttl, byte (x.ttl / 256)]) (hl : saidW x = l) : acc2 ++ mk l = mk (listW (rs.take (k + 1))) := by
  apply tl_inj
  rw [h2, ha, listW_next hx]
  simp only [tl_append, tl_mk', recW, hl, List.append_assoc]
theorem rec_str4 {rs : List Rec} {k : Nat} {x : Rec} {acc acc2 : ByteArray} (ha : acc = mk (listW (rs.take k))) (hx : rs[k]? = some x)
    (h2 : acc2 = acc ++ mk (nameW (tl x.name)) ++ mk [byte x.ty, byte x.ttl, byte (x.ttl / 256)]) (t : x.ty = 4) : acc2 = mk (listW (rs.take (k + 1))) := by
  have hl : saidW x = [] := by unfold saidW; rw [if_neg (by omega), if_neg (by omega)]
  apply tl_inj
  rw [h2, ha, listW_next hx]
  simp only [tl_append, tl_mk', recW, hl, List.append_assoc, List.append_nil]
theorem saidW_1 {x : Rec} (t : x.ty = 1) : saidW x = [byte x.num] := by unfold saidW; rw [if_pos t]
theorem saidW_2 {x : Rec} (t : x.ty = 2 ∨ x.ty = 3) : saidW x = nameW (tl x.target) := by unfold saidW; rw [if_neg (by omega), if_pos t]

def lstS (rs : List Rec) : ByteArray := if listOk rs then mk (listW rs) else ⟨#[]⟩
theorem lstS_yes {rs : List Rec} (h : listOk rs = true) : lstS rs = mk (listW rs) := by unfold lstS; rw [h]; rfl
theorem lstS_no {rs : List Rec} (h : listOk rs = false) : lstS rs = ⟨#[]⟩ := by unfold lstS; rw [h]; rfl
theorem ret_lst {a b : ByteArray} {x y : Bool} (h : a = b) (h' : x = y) : Ending.returned (.tuple #[.string a, .bool x]) = .returned (.tuple #[.string b, .bool y]) := by rw [h, h']

set_option maxHeartbeats 4000000 in
theorem records_any (v : Value) (rs : List Rec) (w : World) (hS : Small rs) (hv : RecSl w v rs) :
    Calls Tryz.prog 157 #[v] w fun e w' => e = .returned (.tuple #[.string (lstS rs), .bool (listOk rs)]) ∧ Below w.heap.size w w' := by
  obtain ⟨a, c, rfl, hcell⟩ := hv.any
  by_cases h10 : 10 < rs.length
  · have hno := listOk_many h10
    go_enter Tryz.func157, Tryz.ntmps157
    go_wp2
    go_ret2
    exact ⟨ret_lst (lstS_no hno).symm hno.symm, Below.refl _ _⟩
  have HC : Hid (∀ (j : Nat) (x : Rec), rs[j]? = some x → ∃ g o, a = some ⟨g, o, none⟩ ∧ g < w.heap.size ∧ RecAt w g (o + j * 5) x) := hcell
  have HS : Hid (Small rs) := hS
  clear hcell hS hv
  go_enter Tryz.func157, Tryz.ntmps157
  go_wp2
  go_loopw [4, 5] (fun v i wr => ∃ k : Nat, k ≤ rs.length ∧ i = .int .i64 k ∧ v = .string (mk (listW (rs.take k))) ∧ (rs.take k).all recOk = true ∧ Below w.heap.size w wr) (fun _ i _ => rs.length - (intOf i).toNat)
  case atStart => exact ⟨0, Nat.zero_le _, rfl, rfl, rfl, Below.refl _ _⟩
  case round =>
    obtain ⟨k, hk, rfl, rfl, hall, hb⟩ := hrel
    have hal : (mk (listW (rs.take k))).size ≤ 1000 := by
      have := listW_length _ hall
      rw [List.length_take] at this
      rw [mk_size]; omega
    obtain ⟨acc, hacc⟩ : ∃ acc, acc = mk (listW (rs.take k)) := ⟨_, rfl⟩
    rw [← hacc] at hal ⊢
    have HA : Hid (acc = mk (listW (rs.take k))) := hacc
    have HL : Hid ((rs.take k).all recOk = true) := hall
    clear hacc hall
    by_cases hlt : k < rs.length
    · obtain ⟨x, hx⟩ := rec_at hlt
      obtain ⟨g, o, rfl, hg, hra⟩ := HC.out k x hx
      obtain ⟨c0, c1, c2, c3, c4⟩ := hra.below hb hg
      clear hra
      obtain ⟨z0, z4⟩ := HS.out k x hx
      have HX : Hid (rs[k]? = some x) := hx
      clear hx
      have hgr : g < wr.heap.size := Nat.lt_of_lt_of_le hg hb.size
      cases hok : recOk x with
      | false =>
        have hno := listOk_bad HX.out hok
        go_wp2_with (go_at_call 230; refine (Well_any x _ z0 z4).mono ?_; rw [hok]; rintro e w1 ⟨rfl, hb1⟩)
        go_ret2
        exact ⟨ret_lst (lstS_no hno).symm hno.symm, hb.step (Nat.le_refl _) hb1⟩
      | true =>
        obtain ⟨hnm, httl, hty⟩ := recOk_cases hok
        go_wp2_with fail
        refine (Well_any x _ z0 z4).mono ?_
        rw [hok]
        rintro e w1 ⟨rfl, hb1⟩
        have hB1 := hb.step (Nat.le_refl _) hb1
        obtain ⟨d0, d1, d2, d3, d4⟩ := (show RecAt wr g (o + k * 5) x from ⟨c0, c1, c2, c3, c4⟩).below hb1 hgr
        have hg1 : g < w1.heap.size := Nat.lt_of_lt_of_le hgr hb1.size
        clear c0 c1 c2 c3 c4
        have hnl := nameW_length _ hnm
        have hB0 : Below w1.heap.size w1 w1 := Below.refl _ _
        have hB0d : Below w1.heap.size w1 w1.drew := (Below.refl _ _).drew
        have hty1 : 1 ≤ x.ty ∧ x.ty ≤ 4 := by omega
        have hmz1 : (mk (nameW (tl x.name))).size = (nameW (tl x.name)).length := mk_size _
        have hmz2 : (mk [byte x.ty, byte x.ttl, byte (x.ttl / 256)]).size = 3 := mk_size _
        have hdv : IntKind.i64.wrap (x.ttl.tdiv 256) = x.ttl / 256 := Go.IntWalk.i64_quo _ _ (by omega)
        have hq1 : ¬ 9223372036854775807 < acc.size + (nameW (tl x.name)).length := by omega
        have hq2 : ¬ 9223372036854775807 < acc.size + (nameW (tl x.name)).length + 3 := by omega
        have HT : Hid ((x.ty = 1 ∧ 0 ≤ x.num ∧ x.num ≤ 255) ∨ (x.ty = 2 ∧ nameOk (tl x.target) = true) ∨ (x.ty = 3 ∧ nameOk (tl x.target) = true) ∨ x.ty = 4) := hty
        clear hty
        go_wp2
        go_region_held3 (fun w' => w'.cell? ⟨g, o + k * 5, none⟩ = some (.string x.name) ∧ w'.cell? ⟨g, o + k * 5 + 1, none⟩ = some (.int .i64 x.ty) ∧ w'.cell? ⟨g, o + k * 5 + 2, none⟩ = some (.int .i64 x.ttl) ∧ w'.cell? ⟨g, o + k * 5 + 3, none⟩ = some (.int .i64 x.num) ∧ w'.cell? ⟨g, o + k * 5 + 4, none⟩ = some (.string x.target) ∧ Below w1.heap.size w1 w')
          (first | exact keep5 hg1 (by assumption) (by assumption) | exact keep5 hg1 (by assumption) (keepA _ _) | go_keep)
          (first
            | (go_at_call 159; refine (written_any x.name _ hnm).mono ?_; rintro e w2 ⟨rfl, hb2⟩)
            | (go_at_call 158; refine (bytes_3 x.ty x.ttl (x.ttl / 256) _ _ (by omega) (by omega) (by omega) (by first | (simp; done) | (have := hb2.size; simp at this ⊢; omega)) (by first | (simp; done) | (rw [hb2.cell (p := ⟨_, _, none⟩) (by simp)]; simp)) (by first | (simp; done) | (rw [hb2.cell (p := ⟨_, _, none⟩) (by simp)]; simp)) (by first | (simp; done) | (rw [hb2.cell (p := ⟨_, _, none⟩) (by simp)]; simp))).mono ?_; rintro e wE ⟨rfl, hbE⟩))
        all_goals
          have hSE : wE.cell? ⟨g, o + k * 5, none⟩ = some (.string x.name) ∧ wE.cell? ⟨g, o + k * 5 + 1, none⟩ = some (.int .i64 x.ty) ∧ wE.cell? ⟨g, o + k * 5 + 2, none⟩ = some (.int .i64 x.ttl) ∧ wE.cell? ⟨g, o + k * 5 + 3, none⟩ = some (.int .i64 x.num) ∧ wE.cell? ⟨g, o + k * 5 + 4, none⟩ = some (.string x.target) ∧ Below w1.heap.size w1 wE := by assumption
          obtain ⟨e0, e1, e2, e3, e4, eB⟩ := hSE
          have hBE := hB1.step (Nat.le_refl _) eB
          have hgE : g < wE.heap.size := Nat.lt_of_lt_of_le hg1 eB.size
          obtain ⟨acc2, hacc2⟩ : ∃ b, b = acc ++ mk (nameW (tl x.name)) ++ mk [byte x.ty, byte x.ttl, byte (x.ttl / 256)] := ⟨_, rfl⟩
          have ha2 : acc2.size ≤ 1100 := by rw [hacc2, ByteArray.size_append, ByteArray.size_append, hmz1, hmz2]; omega
          rw [← hacc2]
          have HA2 : Hid (acc2 = acc ++ mk (nameW (tl x.name)) ++ mk [byte x.ty, byte x.ttl, byte (x.ttl / 256)]) := hacc2
          clear hacc2 hmz1 hmz2 hq1 hq2 hbE hb2 hdv
          rcases HT.out with ⟨t, n0, n1⟩ | ⟨t, hn⟩ | ⟨t, hn⟩ | t
          · have t1 : (x.ty == 1) = true := by simp [t]
            have t2 : (x.ty == 2) = false := by simp [t]
            have t3 : (x.ty == 3) = false := by simp [t]
            go_wp2_with fail
            refine (bytes_1 x.num _ _ (by omega) (by simp) (by simp)).mono ?_
            rintro e w3 ⟨rfl, hb3⟩
            have hB3 := (hBE.alloc hBE.size _).step (Nat.le_refl _) hb3
            have f1 : w3.cell? ⟨g, o + k * 5 + 1, none⟩ = some (.int .i64 x.ty) := (hb3.cell (p := ⟨g, o + k * 5 + 1, none⟩) (Nat.lt_of_lt_of_le hgE (keepA _ _).size)).trans (((keepA wE _).cell (p := ⟨g, o + k * 5 + 1, none⟩) hgE).trans e1)
            have hmz : (mk [byte x.num]).size = 1 := mk_size _
            have hq : ¬ 9223372036854775807 < acc2.size + 1 := by omega
            have HR : Hid (acc2 ++ mk [byte x.num] = mk (listW (rs.take (k + 1)))) := rec_str HA.out HX.out HA2.out (saidW_1 t)
            go_wp2
            go_roundw
            case rel => exact ⟨k + 1, hlt, by go_num, congrArg Value.string HR.out, all_snocR HX.out HL.out hok, hB3⟩
            case measure => simp [intOf]; omega
          · have t1 : (x.ty == 1) = false := by simp [t]
            have t2 : (x.ty == 2) = true := by simp [t]
            go_wp2_with fail
            refine (written_any x.target _ hn).mono ?_
            rintro e w3 ⟨rfl, hb3⟩
            have hB3 := hBE.step (Nat.le_refl _) hb3
            have hmz : (mk (nameW (tl x.target))).size = (nameW (tl x.target)).length := mk_size _
            have hnt := nameW_length _ hn
            have hq : ¬ 9223372036854775807 < acc2.size + (nameW (tl x.target)).length := by omega
            have HR : Hid (acc2 ++ mk (nameW (tl x.target)) = mk (listW (rs.take (k + 1)))) := rec_str HA.out HX.out HA2.out (saidW_2 (.inl t))
            go_wp2
            go_roundw
            case rel => exact ⟨k + 1, hlt, by go_num, congrArg Value.string HR.out, all_snocR HX.out HL.out hok, hB3⟩
            case measure => simp [intOf]; omega
          · have t1 : (x.ty == 1) = false := by simp [t]
            have t2 : (x.ty == 2) = false := by simp [t]
            have t3 : (x.ty == 3) = true := by simp [t]
            go_wp2_with fail
            refine (written_any x.target _ hn).mono ?_
            rintro e w3 ⟨rfl, hb3⟩
            have hB3 := hBE.step (Nat.le_refl _) hb3
            have hmz : (mk (nameW (tl x.target))).size = (nameW (tl x.target)).length := mk_size _
            have hnt := nameW_length _ hn
            have hq : ¬ 9223372036854775807 < acc2.size + (nameW (tl x.target)).length := by omega
            have HR : Hid (acc2 ++ mk (nameW (tl x.target)) = mk (listW (rs.take (k + 1)))) := rec_str HA.out HX.out HA2.out (saidW_2 (.inr t))
            go_wp2
            go_roundw
            case rel => exact ⟨k + 1, hlt, by go_num, congrArg Value.string HR.out, all_snocR HX.out HL.out hok, hB3⟩
            case measure => simp [intOf]; omega
          · have t1 : (x.ty == 1) = false := by simp [t]
            have t2 : (x.ty == 2) = false := by simp [t]
            have t3 : (x.ty == 3) = false := by simp [t]
            have HR : Hid (acc2 = mk (listW (rs.take (k + 1)))) := rec_str4 HA.out HX.out HA2.out t
            go_wp2
            go_roundw
            case rel => exact ⟨k + 1, hlt, by go_num, congrArg Value.string HR.out, all_snocR HX.out HL.out hok, hBE⟩
            case measure => simp [intOf]; omega
    · have hyes := listOk_good (by omega) (by omega) HL.out
      have hst : acc = mk (listW rs) := by rw [HA.out, List.take_of_length_le (by omega)]
      have HY : Hid (acc = mk (listW rs)) := hst
      clear hst
      go_wp2
      go_ret2
      exact ⟨ret_lst (by rw [lstS_yes hyes]; exact HY.out) hyes.symm, hb⟩
end Go.Proofs.YtefdokkadckbbaaGreatDoor
