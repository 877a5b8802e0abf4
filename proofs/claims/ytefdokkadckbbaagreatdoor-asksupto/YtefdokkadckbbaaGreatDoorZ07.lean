/- C3 C4 -/
import Derived.Test.YtefdokkadckbbaaGreatDoorZ06
section
namespace Go.Proofs.YtefdokkadckbbaaGreatDoor
open Go.RowKit
set_option maxRecDepth 100000
theorem recOk_cases {r : Rec} (h : recOk r = true) : nameOk (tl r.name) = true ∧ (1 ≤ r.ttl ∧ r.ttl ≤ 1000) ∧ ((r.ty = 1 ∧ 0 ≤ r.num ∧ r.num ≤ 255) ∨ (r.ty = 2 ∧ nameOk (tl r.target) = true) ∨ (r.ty = 3 ∧ nameOk (tl r.target) = true) ∨ r.ty = 4) := by
 unfold recOk at h
 simp only [Bool.and_eq_true, decide_eq_true_eq] at h
 refine ⟨h.1.1, h.1.2, ?_⟩
 have hs := h.2
 unfold saysOk at hs
 by_cases t1 : r.ty = 1
 ·rw [if_pos t1] at hs
  simp only [Bool.and_eq_true, decide_eq_true_eq] at hs
  exact .inl ⟨t1, hs.1⟩
 rw [if_neg t1] at hs
 by_cases t2 : r.ty = 2 ∨ r.ty = 3
 ·rw [if_pos t2] at hs
  simp only [Bool.and_eq_true, decide_eq_true_eq] at hs
  rcases t2 with t | t
  ·exact .inr (.inl ⟨t, hs.2⟩)
  ·exact .inr (.inr (.inl ⟨t, hs.2⟩))
 rw [if_neg t2] at hs
 by_cases t4 : r.ty = 4
 ·exact .inr (.inr (.inr t4))
 ·rw [if_neg t4] at hs; cases hs
theorem keep5 {g o : Nat} {W0 wA wB : World} {v0 v1 v2 v3 v4 : Value} (hg : g < W0.heap.size)
  (h : wA.cell? ⟨g, o, none⟩ = some v0 ∧ wA.cell? ⟨g, o + 1, none⟩ = some v1 ∧ wA.cell? ⟨g, o + 2, none⟩ = some v2 ∧ wA.cell? ⟨g, o + 3, none⟩ = some v3 ∧ wA.cell? ⟨g, o + 4, none⟩ = some v4 ∧ Below W0.heap.size W0 wA) (hb : Below wA.heap.size wA wB) :
  wB.cell? ⟨g, o, none⟩ = some v0 ∧ wB.cell? ⟨g, o + 1, none⟩ = some v1 ∧ wB.cell? ⟨g, o + 2, none⟩ = some v2 ∧ wB.cell? ⟨g, o + 3, none⟩ = some v3 ∧ wB.cell? ⟨g, o + 4, none⟩ = some v4 ∧ Below W0.heap.size W0 wB := by
 obtain ⟨h0, h1, h2, h3, h4, h5⟩ := h
 have hlt : g < wA.heap.size := Nat.lt_of_lt_of_le hg h5.size
 simp only [hb.cell (p := ⟨g, _, none⟩) hlt]
 exact ⟨h0, h1, h2, h3, h4, h5.trans (hb.mono h5.size)⟩
theorem listW_next {rs : List Rec} {k : Nat} {x : Rec} (h : rs[k]? = some x) : listW (rs.take (k + 1)) = listW (rs.take k) ++ recW x := by
 rw [List.take_add_one, h]; simp [listW]
theorem rec_str {rs : List Rec} {k : Nat} {x : Rec} {acc acc2 : ByteArray} {l : List UInt8} (ha : acc = mk (listW (rs.take k))) (hx : rs[k]? = some x)
  (h2 : acc2 = acc ++ mk (nameW (tl x.name)) ++ mk [byte x.ty, byte x.ttl, byte (x.ttl / 256)]) (hl : saidW x = l) : acc2 ++ mk l = mk (listW (rs.take (k + 1))) := by
 apply tl_inj
 rw [h2, ha, listW_next hx]
 simp only [tl_append, tl_mk', recW, hl, List.append_assoc]
theorem rec_str4 {rs : List Rec} {k : Nat} {x : Rec} {acc acc2 : ByteArray} (ha : acc = mk (listW (rs.take k))) (hx : rs[k]? = some x)
  (h2 : acc2 = acc ++ mk (nameW (tl x.name)) ++ mk [byte x.ty, byte x.ttl, byte (x.ttl / 256)]) (t : x.ty = 4) : acc2 = mk (listW (rs.take (k + 1))) := by
 have hl : saidW x = [] := by unfold saidW; rw [if_neg (by omega), if_neg (by omega)]
 apply tl_inj
 rw [h2, ha, listW_next hx]
 simp only [tl_append, tl_mk', recW, hl, List.append_assoc, List.append_nil]
theorem saidW_1 {x : Rec} (t : x.ty = 1) : saidW x = [byte x.num] := by unfold saidW; rw [if_pos t]
theorem saidW_2 {x : Rec} (t : x.ty = 2 ∨ x.ty = 3) : saidW x = nameW (tl x.target) := by unfold saidW; rw [if_neg (by omega), if_pos t]
def lstS (rs : List Rec) : ByteArray := if listOk rs then mk (listW rs) else ⟨#[]⟩
theorem lstS_yes {rs : List Rec} (h : listOk rs = true) : lstS rs = mk (listW rs) := by unfold lstS; rw [h]; rfl
theorem lstS_no {rs : List Rec} (h : listOk rs = false) : lstS rs = ⟨#[]⟩ := by unfold lstS; rw [h]; rfl
theorem ret_lst {a b : ByteArray} {x y : Bool} (h : a = b) (h' : x = y) : Ending.returned (.tuple #[.string a, .bool x]) = .returned (.tuple #[.string b, .bool y]) := by rw [h, h']
set_option maxHeartbeats 4000000 in
theorem records_any (v : Value) (rs : List Rec) (w : World) (hS : Small rs) (hv : RecSl w v rs) :
  Calls Tryz.prog 157 #[v] w fun e w' => e = .returned (.tuple #[.string (lstS rs), .bool (listOk rs)]) ∧ Below w.heap.size w w' := by
 obtain ⟨a, c, rfl, hcell⟩ := hv.any
 by_cases h10 : 10 < rs.length
 ·have hno := listOk_many h10
  go_enter Tryz.func157, Tryz.ntmps157
  go_wp2
  go_ret2
  exact ⟨ret_lst (lstS_no hno).symm hno.symm, Below.refl _ _⟩
 have HC : Hid (∀ (j : Nat) (x : Rec), rs[j]? = some x → ∃ g o, a = some ⟨g, o, none⟩ ∧ g < w.heap.size ∧ RecAt w g (o + j * 5) x) := hcell
 have HS : Hid (Small rs) := hS
 clear hcell hS hv
 go_enter Tryz.func157, Tryz.ntmps157
 go_wp2
 go_loopw [4, 5] (fun v i wr => ∃ k : Nat, k ≤ rs.length ∧ i = .int .i64 k ∧ v = .string (mk (listW (rs.take k))) ∧ (rs.take k).all recOk = true ∧ Below w.heap.size w wr) (fun _ i _ => rs.length - (intOf i).toNat)
 case atStart => exact ⟨0, Nat.zero_le _, rfl, rfl, rfl, Below.refl _ _⟩
 case round =>
  obtain ⟨k, hk, rfl, rfl, hall, hb⟩ := hrel
  have hal : (mk (listW (rs.take k))).size ≤ 1000 := by
   have := listW_length _ hall
   rw [List.length_take] at this
   rw [mk_size]; omega
  obtain ⟨acc, hacc⟩ : ∃ acc, acc = mk (listW (rs.take k)) := ⟨_, rfl⟩
  rw [← hacc] at hal ⊢
  have HA : Hid (acc = mk (listW (rs.take k))) := hacc
  have HL : Hid ((rs.take k).all recOk = true) := hall
  clear hacc hall
  by_cases hlt : k < rs.length
  ·obtain ⟨x, hx⟩ := rec_at hlt
   obtain ⟨g, o, rfl, hg, hra⟩ := HC.out k x hx
   obtain ⟨c0, c1, c2, c3, c4⟩ := hra.below hb hg
   clear hra
   obtain ⟨z0, z4⟩ := HS.out k x hx
   have HX : Hid (rs[k]? = some x) := hx
   clear hx
   have hgr : g < wr.heap.size := Nat.lt_of_lt_of_le hg hb.size
   cases hok : recOk x with
   | false =>
    have hno := listOk_bad HX.out hok
    go_wp2_with (go_at_call 230; refine (Well_any x _ z0 z4).mono ?_; rw [hok]; rintro e w1 ⟨rfl, hb1⟩)
    go_ret2
    exact ⟨ret_lst (lstS_no hno).symm hno.symm, hb.step (Nat.le_refl _) hb1⟩
   | true =>
    obtain ⟨hnm, httl, hty⟩ := recOk_cases hok
    go_wp2_with fail
    refine (Well_any x _ z0 z4).mono ?_
    rw [hok]
    rintro e w1 ⟨rfl, hb1⟩
    have hB1 := hb.step (Nat.le_refl _) hb1
    obtain ⟨d0, d1, d2, d3, d4⟩ := (show RecAt wr g (o + k * 5) x from ⟨c0, c1, c2, c3, c4⟩).below hb1 hgr
    have hg1 : g < w1.heap.size := Nat.lt_of_lt_of_le hgr hb1.size
    clear c0 c1 c2 c3 c4
    have hnl := nameW_length _ hnm
    have hB0 : Below w1.heap.size w1 w1 := Below.refl _ _
    have hB0d : Below w1.heap.size w1 w1.drew := (Below.refl _ _).drew
    have hty1 : 1 ≤ x.ty ∧ x.ty ≤ 4 := by omega
    have hmz1 : (mk (nameW (tl x.name))).size = (nameW (tl x.name)).length := mk_size _
    have hmz2 : (mk [byte x.ty, byte x.ttl, byte (x.ttl / 256)]).size = 3 := mk_size _
    have hdv : IntKind.i64.wrap (x.ttl.tdiv 256) = x.ttl / 256 := Go.IntWalk.i64_quo _ _ (by omega)
    have hq1 : ¬ 9223372036854775807 < acc.size + (nameW (tl x.name)).length := by omega
    have hq2 : ¬ 9223372036854775807 < acc.size + (nameW (tl x.name)).length + 3 := by omega
    have HT : Hid ((x.ty = 1 ∧ 0 ≤ x.num ∧ x.num ≤ 255) ∨ (x.ty = 2 ∧ nameOk (tl x.target) = true) ∨ (x.ty = 3 ∧ nameOk (tl x.target) = true) ∨ x.ty = 4) := hty
    clear hty
    go_wp2
    go_region_held3 (fun w' => w'.cell? ⟨g, o + k * 5, none⟩ = some (.string x.name) ∧ w'.cell? ⟨g, o + k * 5 + 1, none⟩ = some (.int .i64 x.ty) ∧ w'.cell? ⟨g, o + k * 5 + 2, none⟩ = some (.int .i64 x.ttl) ∧ w'.cell? ⟨g, o + k * 5 + 3, none⟩ = some (.int .i64 x.num) ∧ w'.cell? ⟨g, o + k * 5 + 4, none⟩ = some (.string x.target) ∧ Below w1.heap.size w1 w')
     (first | exact keep5 hg1 (by assumption) (by assumption) | exact keep5 hg1 (by assumption) (keepA _ _) | go_keep)
     (first
      | (go_at_call 159; refine (written_any x.name _ hnm).mono ?_; rintro e w2 ⟨rfl, hb2⟩)
      | (go_at_call 158; refine (bytes_3 x.ty x.ttl (x.ttl / 256) _ _ (by omega) (by omega) (by omega) (by first | (simp; done) | (have := hb2.size; simp at this ⊢; omega)) (by first | (simp; done) | (rw [hb2.cell (p := ⟨_, _, none⟩) (by simp)]; simp)) (by first | (simp; done) | (rw [hb2.cell (p := ⟨_, _, none⟩) (by simp)]; simp)) (by first | (simp; done) | (rw [hb2.cell (p := ⟨_, _, none⟩) (by simp)]; simp))).mono ?_; rintro e wE ⟨rfl, hbE⟩))
    all_goals
     have hSE : wE.cell? ⟨g, o + k * 5, none⟩ = some (.string x.name) ∧ wE.cell? ⟨g, o + k * 5 + 1, none⟩ = some (.int .i64 x.ty) ∧ wE.cell? ⟨g, o + k * 5 + 2, none⟩ = some (.int .i64 x.ttl) ∧ wE.cell? ⟨g, o + k * 5 + 3, none⟩ = some (.int .i64 x.num) ∧ wE.cell? ⟨g, o + k * 5 + 4, none⟩ = some (.string x.target) ∧ Below w1.heap.size w1 wE := by assumption
     obtain ⟨e0, e1, e2, e3, e4, eB⟩ := hSE
     have hBE := hB1.step (Nat.le_refl _) eB
     have hgE : g < wE.heap.size := Nat.lt_of_lt_of_le hg1 eB.size
     obtain ⟨acc2, hacc2⟩ : ∃ b, b = acc ++ mk (nameW (tl x.name)) ++ mk [byte x.ty, byte x.ttl, byte (x.ttl / 256)] := ⟨_, rfl⟩
     have ha2 : acc2.size ≤ 1100 := by rw [hacc2, ByteArray.size_append, ByteArray.size_append, hmz1, hmz2]; omega
     rw [← hacc2]
     have HA2 : Hid (acc2 = acc ++ mk (nameW (tl x.name)) ++ mk [byte x.ty, byte x.ttl, byte (x.ttl / 256)]) := hacc2
     clear hacc2 hmz1 hmz2 hq1 hq2 hbE hb2 hdv
     rcases HT.out with ⟨t, n0, n1⟩ | ⟨t, hn⟩ | ⟨t, hn⟩ | t
     ·have t1 : (x.ty == 1) = true := by simp [t]
      have t2 : (x.ty == 2) = false := by simp [t]
      have t3 : (x.ty == 3) = false := by simp [t]
      go_wp2_with fail
      refine (bytes_1 x.num _ _ (by omega) (by simp) (by simp)).mono ?_
      rintro e w3 ⟨rfl, hb3⟩
      have hB3 := (hBE.alloc hBE.size _).step (Nat.le_refl _) hb3
      have f1 : w3.cell? ⟨g, o + k * 5 + 1, none⟩ = some (.int .i64 x.ty) := (hb3.cell (p := ⟨g, o + k * 5 + 1, none⟩) (Nat.lt_of_lt_of_le hgE (keepA _ _).size)).trans (((keepA wE _).cell (p := ⟨g, o + k * 5 + 1, none⟩) hgE).trans e1)
      have hmz : (mk [byte x.num]).size = 1 := mk_size _
      have hq : ¬ 9223372036854775807 < acc2.size + 1 := by omega
      have HR : Hid (acc2 ++ mk [byte x.num] = mk (listW (rs.take (k + 1)))) := rec_str HA.out HX.out HA2.out (saidW_1 t)
      go_wp2
      go_roundw
      case rel => exact ⟨k + 1, hlt, by go_num, congrArg Value.string HR.out, all_snocR HX.out HL.out hok, hB3⟩
      case measure => simp [intOf]; omega
     ·have t1 : (x.ty == 1) = false := by simp [t]
      have t2 : (x.ty == 2) = true := by simp [t]
      go_wp2_with fail
      refine (written_any x.target _ hn).mono ?_
      rintro e w3 ⟨rfl, hb3⟩
      have hB3 := hBE.step (Nat.le_refl _) hb3
      have hmz : (mk (nameW (tl x.target))).size = (nameW (tl x.target)).length := mk_size _
      have hnt := nameW_length _ hn
      have hq : ¬ 9223372036854775807 < acc2.size + (nameW (tl x.target)).length := by omega
      have HR : Hid (acc2 ++ mk (nameW (tl x.target)) = mk (listW (rs.take (k + 1)))) := rec_str HA.out HX.out HA2.out (saidW_2 (.inl t))
      go_wp2
      go_roundw
      case rel => exact ⟨k + 1, hlt, by go_num, congrArg Value.string HR.out, all_snocR HX.out HL.out hok, hB3⟩
      case measure => simp [intOf]; omega
     ·have t1 : (x.ty == 1) = false := by simp [t]
      have t2 : (x.ty == 2) = false := by simp [t]
      have t3 : (x.ty == 3) = true := by simp [t]
      go_wp2_with fail
      refine (written_any x.target _ hn).mono ?_
      rintro e w3 ⟨rfl, hb3⟩
      have hB3 := hBE.step (Nat.le_refl _) hb3
      have hmz : (mk (nameW (tl x.target))).size = (nameW (tl x.target)).length := mk_size _
      have hnt := nameW_length _ hn
      have hq : ¬ 9223372036854775807 < acc2.size + (nameW (tl x.target)).length := by omega
      have HR : Hid (acc2 ++ mk (nameW (tl x.target)) = mk (listW (rs.take (k + 1)))) := rec_str HA.out HX.out HA2.out (saidW_2 (.inr t))
      go_wp2
      go_roundw
      case rel => exact ⟨k + 1, hlt, by go_num, congrArg Value.string HR.out, all_snocR HX.out HL.out hok, hB3⟩
      case measure => simp [intOf]; omega
     ·have t1 : (x.ty == 1) = false := by simp [t]
      have t2 : (x.ty == 2) = false := by simp [t]
      have t3 : (x.ty == 3) = false := by simp [t]
      have HR : Hid (acc2 = mk (listW (rs.take (k + 1)))) := rec_str4 HA.out HX.out HA2.out t
      go_wp2
      go_roundw
      case rel => exact ⟨k + 1, hlt, by go_num, congrArg Value.string HR.out, all_snocR HX.out HL.out hok, hBE⟩
      case measure => simp [intOf]; omega
  ·have hyes := listOk_good (by omega) (by omega) HL.out
   have hst : acc = mk (listW rs) := by rw [HA.out, List.take_of_length_le (by omega)]
   have HY : Hid (acc = mk (listW rs)) := hst
   clear hst
   go_wp2
   go_ret2
   exact ⟨ret_lst (by rw [lstS_yes hyes]; exact HY.out) hyes.symm, hb⟩
end Go.Proofs.YtefdokkadckbbaaGreatDoor
end
section
namespace Go.Proofs.YtefdokkadckbbaaGreatDoor
open Go.RowKit
set_option maxRecDepth 100000
theorem msg_false {m : Msg} {bn b1 b2 b3 : Bool} (hn : nameOk (tl m.name) = bn) (h1 : listOk m.answer = b1) (h2 : listOk m.servers = b2) (h3 : listOk m.more = b3) (h : msgOk m = false) :
  bn = false ∨ (bn = true ∧ b1 = false) ∨ (bn = true ∧ b1 = true ∧ b2 = false) ∨ (bn = true ∧ b1 = true ∧ b2 = true ∧ b3 = false) ∨
   (bn = true ∧ b1 = true ∧ b2 = true ∧ b3 = true ∧ (m.id < 0 ∨ (0 ≤ m.id ∧ 65535 < m.id) ∨ (0 ≤ m.id ∧ m.id ≤ 65535 ∧ m.code < 0) ∨ (0 ≤ m.id ∧ m.id ≤ 65535 ∧ 0 ≤ m.code ∧ 3 < m.code) ∨
    (0 ≤ m.id ∧ m.id ≤ 65535 ∧ 0 ≤ m.code ∧ m.code ≤ 3 ∧ m.ty < 0) ∨ (0 ≤ m.id ∧ m.id ≤ 65535 ∧ 0 ≤ m.code ∧ m.code ≤ 3 ∧ 0 ≤ m.ty ∧ 4 < m.ty))) := by
 cases bn
 ·exact .inl rfl
 cases b1
 ·exact .inr (.inl ⟨rfl, rfl⟩)
 cases b2
 ·exact .inr (.inr (.inl ⟨rfl, rfl, rfl⟩))
 cases b3
 ·exact .inr (.inr (.inr (.inl ⟨rfl, rfl, rfl, rfl⟩)))
 refine .inr (.inr (.inr (.inr ⟨rfl, rfl, rfl, rfl, ?_⟩)))
 unfold msgOk numsOk at h
 rw [hn, h1, h2, h3] at h
 simp only [Bool.and_true, Bool.and_eq_false_iff, decide_eq_false_iff_not] at h
 omega
set_option maxHeartbeats 4000000 in
theorem rEncode_no (m : Msg) (va vs vm : Value) (w : World) (hS : SmallM m) (ha : RecSl w va m.answer) (hs : RecSl w vs m.servers) (hm : RecSl w vm m.more) (hok : msgOk m = false) :
  Calls Tryz.prog 124 #[.agg #[.int .i64 m.id, .bool m.reply, .int .i64 m.code, .string m.name, .int .i64 m.ty, va, vs, vm]] w fun e w' => e = .returned (.tuple #[.string (encS m), .int .i64 (encE m)]) ∧ Below w.heap.size w w' := by
 obtain ⟨aa, ca, rfl, hra⟩ := ha
 obtain ⟨ab, cb, rfl, hrs⟩ := hs
 obtain ⟨am, cm, rfl, hrm⟩ := hm
 have hA : RecSl w (.slice aa m.answer.length ca) m.answer := ⟨aa, ca, rfl, hra⟩
 have hSv : RecSl w (.slice ab m.servers.length cb) m.servers := ⟨ab, cb, rfl, hrs⟩
 have hM : RecSl w (.slice am m.more.length cm) m.more := ⟨am, cm, rfl, hrm⟩
 clear hra hrs hrm
 obtain ⟨z0, z1, z2, z3⟩ := hS
 obtain ⟨bn, hbn⟩ : ∃ b, nameOk (tl m.name) = b := ⟨_, rfl⟩
 obtain ⟨b1, hb1⟩ : ∃ b, listOk m.answer = b := ⟨_, rfl⟩
 obtain ⟨b2, hb2⟩ : ∃ b, listOk m.servers = b := ⟨_, rfl⟩
 obtain ⟨b3, hb3⟩ : ∃ b, listOk m.more = b := ⟨_, rfl⟩
 have HF := msg_false hbn hb1 hb2 hb3 hok
 have es := encS_no hok
 have ee := encE_no hok
 have HES : Hid (encS m = ⟨#[]⟩) := es
 have HEE : Hid (encE m = 1) := ee
 obtain ⟨O, hO⟩ : ∃ O, O = Obj.cells #[.int .i64 m.id, .bool m.reply, .int .i64 m.code, .string m.name, .int .i64 m.ty, .slice aa m.answer.length ca, .slice ab m.servers.length cb, .slice am m.more.length cm] 27 := ⟨_, rfl⟩
 have hB := (Below.refl w.heap.size w).alloc (Nat.le_refl _) O
 have hgl : w.heap.size < (w.alloc O).heap.size := by simp
 subst hO
 clear es ee hok
 go_enter Tryz.func124, Tryz.ntmps124
 go_wp2_with fail
 refine (Name_any m.name _ z0).mono ?_
 rw [hbn]
 rintro e w1 ⟨rfl, k1⟩
 have hB1 := hB.step (Nat.le_refl _) k1
 obtain ⟨hc1, _⟩ := bcell k1
 have hz1 : w.heap.size < w1.heap.size := Nat.lt_of_lt_of_le hgl k1.size
 go_wp2_with fail
 refine (records_any _ m.answer _ z1 (hA.below hB1)).mono ?_
 rw [hb1]
 rintro e w2 ⟨rfl, k2⟩
 have hB2 := hB1.step (Nat.le_refl _) k2
 obtain ⟨hc2, _⟩ := bcell k2
 have hz2 : w.heap.size < w2.heap.size := Nat.lt_of_lt_of_le hz1 k2.size
 go_wp2_with fail
 refine (records_any _ m.servers _ z2 (hSv.below hB2)).mono ?_
 rw [hb2]
 rintro e w3 ⟨rfl, k3⟩
 have hB3 := hB2.step (Nat.le_refl _) k3
 obtain ⟨hc3, _⟩ := bcell k3
 have hz3 : w.heap.size < w3.heap.size := Nat.lt_of_lt_of_le hz2 k3.size
 go_wp2_with fail
 refine (records_any _ m.more _ z3 (hM.below hB3)).mono ?_
 rw [hb3]
 rintro e w4 ⟨rfl, k4⟩
 have hB4 := hB3.step (Nat.le_refl _) k4
 obtain ⟨hc4, _⟩ := bcell k4
 clear hbn hb1 hb2 hb3
 rcases HF with rfl | ⟨rfl, rfl⟩ | ⟨rfl, rfl, rfl⟩ | ⟨rfl, rfl, rfl, rfl⟩ | ⟨rfl, rfl, rfl, rfl, h | ⟨h, h'⟩ | ⟨h, h', h1⟩ | ⟨h, h', h1, h1'⟩ | ⟨h, h', h1, h1', h2⟩ | ⟨h, h', h1, h1', h2, h2'⟩⟩
 all_goals
  go_wp2
  go_ret2
  exact ⟨ret_enc HES.out.symm HEE.out.symm, hB4⟩
end Go.Proofs.YtefdokkadckbbaaGreatDoor
end
