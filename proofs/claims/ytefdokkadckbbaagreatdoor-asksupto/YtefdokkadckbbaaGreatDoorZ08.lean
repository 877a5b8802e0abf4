/- C5 -/
import Derived.Test.YtefdokkadckbbaaGreatDoorZ07
namespace Go.Proofs.YtefdokkadckbbaaGreatDoor
open Go.RowKit
set_option maxRecDepth 100000
theorem msg_true {m : Msg} (h : msgOk m = true) : nameOk (tl m.name) = true ∧ listOk m.answer = true ∧ listOk m.servers = true ∧ listOk m.more = true ∧ (0 ≤ m.id ∧ m.id ≤ 65535) ∧ (0 ≤ m.code ∧ m.code ≤ 3) ∧ (0 ≤ m.ty ∧ m.ty ≤ 4) := by
 unfold msgOk numsOk at h
 simp only [Bool.and_eq_true, decide_eq_true_eq] at h
 exact ⟨h.1.1.1.2, h.1.1.2, h.1.2, h.2, h.1.1.1.1.1.1, h.1.1.1.1.1.2, h.1.1.1.1.2⟩
theorem listOk_len {rs : List Rec} (h : listOk rs = true) : rs.length ≤ 10 ∧ (listW rs).length ≤ 750 := by
 unfold listOk at h
 simp only [Bool.and_eq_true, decide_eq_true_eq] at h
 have := listW_length _ h.2
 omega
theorem msg_str {m : Msg} {acc : ByteArray} (ha : acc = mk [byte m.id, byte (m.id / 256), if m.reply then 114 else 113]) :
  acc ++ mk [byte m.code] ++ mk (nameW (tl m.name)) ++ mk [byte m.ty, byte m.answer.length, byte m.servers.length, byte m.more.length] ++ mk (listW m.answer) ++ mk (listW m.servers) ++ mk (listW m.more) = mk (msgW m) := by
 apply tl_inj
 rw [ha]
 simp only [tl_append, tl_mk', msgW, List.append_assoc]
 simp
theorem kind_t (m : Msg) (h : true = m.reply) : mk [byte m.id, byte (m.id / 256)] ++ ⟨#[114]⟩ = mk [byte m.id, byte (m.id / 256), if m.reply then 114 else 113] := by
 rw [← h]; rfl
theorem kind_f (m : Msg) (h : false = m.reply) : mk [byte m.id, byte (m.id / 256)] ++ ⟨#[113]⟩ = mk [byte m.id, byte (m.id / 256), if m.reply then 114 else 113] := by
 rw [← h]; rfl
set_option maxHeartbeats 8000000 in
theorem rEncode_yes (m : Msg) (va vs vm : Value) (w : World) (hS : SmallM m) (ha : RecSl w va m.answer) (hs : RecSl w vs m.servers) (hm : RecSl w vm m.more) (hok : msgOk m = true) :
  Calls Tryz.prog 124 #[.agg #[.int .i64 m.id, .bool m.reply, .int .i64 m.code, .string m.name, .int .i64 m.ty, va, vs, vm]] w fun e w' => e = .returned (.tuple #[.string (encS m), .int .i64 (encE m)]) ∧ Below w.heap.size w w' := by
 obtain ⟨aa, ca, rfl, hra⟩ := ha
 obtain ⟨ab, cb, rfl, hrs⟩ := hs
 obtain ⟨am, cm, rfl, hrm⟩ := hm
 have hA : RecSl w (.slice aa m.answer.length ca) m.answer := ⟨aa, ca, rfl, hra⟩
 have hSv : RecSl w (.slice ab m.servers.length cb) m.servers := ⟨ab, cb, rfl, hrs⟩
 have hM : RecSl w (.slice am m.more.length cm) m.more := ⟨am, cm, rfl, hrm⟩
 clear hra hrs hrm
 obtain ⟨z0, z1, z2, z3⟩ := hS
 obtain ⟨hbn, hb1, hb2, hb3, hid, hco, hty⟩ := msg_true hok
 obtain ⟨l1, l1'⟩ := listOk_len hb1
 obtain ⟨l2, l2'⟩ := listOk_len hb2
 obtain ⟨l3, l3'⟩ := listOk_len hb3
 have hnl := nameW_length _ hbn
 have HES : Hid (encS m = mk (msgW m)) := encS_yes hok
 have HEE : Hid (encE m = 0) := encE_yes hok
 obtain ⟨O, hO⟩ : ∃ O, O = Obj.cells #[.int .i64 m.id, .bool m.reply, .int .i64 m.code, .string m.name, .int .i64 m.ty, .slice aa m.answer.length ca, .slice ab m.servers.length cb, .slice am m.more.length cm] 27 := ⟨_, rfl⟩
 have hB := (Below.refl w.heap.size w).alloc (Nat.le_refl _) O
 have hgl : w.heap.size < (w.alloc O).heap.size := by simp
 have cc : (w.alloc O).cell? ⟨w.heap.size, 0, none⟩ = some (.int .i64 m.id) ∧ (w.alloc O).cell? ⟨w.heap.size, 1, none⟩ = some (.bool m.reply) ∧ (w.alloc O).cell? ⟨w.heap.size, 2, none⟩ = some (.int .i64 m.code) ∧ (w.alloc O).cell? ⟨w.heap.size, 3, none⟩ = some (.string m.name) ∧ (w.alloc O).cell? ⟨w.heap.size, 4, none⟩ = some (.int .i64 m.ty) ∧ (w.alloc O).cell? ⟨w.heap.size, 5, none⟩ = some (.slice aa m.answer.length ca) ∧ (w.alloc O).cell? ⟨w.heap.size, 6, none⟩ = some (.slice ab m.servers.length cb) ∧ (w.alloc O).cell? ⟨w.heap.size, 7, none⟩ = some (.slice am m.more.length cm) ∧ Below (w.alloc O).heap.size (w.alloc O) (w.alloc O) := by
  rw [hO]
  exact ⟨by simp, by simp, by simp, by simp, by simp, by simp, by simp, by simp, Below.refl _ _⟩
 have CC : Hid ((w.alloc O).cell? ⟨w.heap.size, 0, none⟩ = some (.int .i64 m.id) ∧ (w.alloc O).cell? ⟨w.heap.size, 1, none⟩ = some (.bool m.reply) ∧ (w.alloc O).cell? ⟨w.heap.size, 2, none⟩ = some (.int .i64 m.code) ∧ (w.alloc O).cell? ⟨w.heap.size, 3, none⟩ = some (.string m.name) ∧ (w.alloc O).cell? ⟨w.heap.size, 4, none⟩ = some (.int .i64 m.ty) ∧ (w.alloc O).cell? ⟨w.heap.size, 5, none⟩ = some (.slice aa m.answer.length ca) ∧ (w.alloc O).cell? ⟨w.heap.size, 6, none⟩ = some (.slice ab m.servers.length cb) ∧ (w.alloc O).cell? ⟨w.heap.size, 7, none⟩ = some (.slice am m.more.length cm) ∧ Below (w.alloc O).heap.size (w.alloc O) (w.alloc O)) := cc
 clear cc
 subst hO
 clear hok
 go_enter Tryz.func124, Tryz.ntmps124
 go_wp2_with fail
 refine (Name_any m.name _ z0).mono ?_
 rw [hbn]
 rintro e w1 ⟨rfl, k1⟩
 have hB1 := hB.step (Nat.le_refl _) k1
 obtain ⟨hc1, _⟩ := bcell k1
 have hz1 : w.heap.size < w1.heap.size := Nat.lt_of_lt_of_le hgl k1.size
 go_wp2_with fail
 refine (records_any _ m.answer _ z1 (hA.below hB1)).mono ?_
 rw [hb1, lstS_yes hb1]
 rintro e w2 ⟨rfl, k2⟩
 have hB2 := hB1.step (Nat.le_refl _) k2
 obtain ⟨hc2, _⟩ := bcell k2
 have hz2 : w.heap.size < w2.heap.size := Nat.lt_of_lt_of_le hz1 k2.size
 go_wp2_with fail
 refine (records_any _ m.servers _ z2 (hSv.below hB2)).mono ?_
 rw [hb2, lstS_yes hb2]
 rintro e w3 ⟨rfl, k3⟩
 have hB3 := hB2.step (Nat.le_refl _) k3
 obtain ⟨hc3, _⟩ := bcell k3
 have hz3 : w.heap.size < w3.heap.size := Nat.lt_of_lt_of_le hz2 k3.size
 go_wp2_with fail
 refine (records_any _ m.more _ z3 (hM.below hB3)).mono ?_
 rw [hb3, lstS_yes hb3]
 rintro e w4 ⟨rfl, k4⟩
 have hB4 := hB3.step (Nat.le_refl _) k4
 have C4 := keepM hgl (keepM hgl (keepM hgl (keepM hgl CC.out k1) k2) k3) k4
 have hz4 : w.heap.size < w4.heap.size := Nat.lt_of_lt_of_le hz3 k4.size
 clear hc1 hc2 hc3 CC k1 k2 k3 k4 hB hB1 hB2 hB3
 obtain ⟨x0, x1, x2, x3, x4, x5, x6, x7, x8⟩ := C4
 go_wp2_with fail
 refine (bytes_2 m.id (m.id / 256) _ _ (by omega) (by omega) (by simp) (by simp) (by simp)).mono ?_
 rintro e w5 ⟨rfl, k5⟩
 have hB5 := (hB4.alloc hB4.size _).step (Nat.le_refl _) k5
 have C5 : w5.cell? ⟨w.heap.size, 0, none⟩ = some (.int .i64 m.id) ∧ w5.cell? ⟨w.heap.size, 1, none⟩ = some (.bool m.reply) ∧ w5.cell? ⟨w.heap.size, 2, none⟩ = some (.int .i64 m.code) ∧ w5.cell? ⟨w.heap.size, 3, none⟩ = some (.string m.name) ∧ w5.cell? ⟨w.heap.size, 4, none⟩ = some (.int .i64 m.ty) ∧ w5.cell? ⟨w.heap.size, 5, none⟩ = some (.slice aa m.answer.length ca) ∧ w5.cell? ⟨w.heap.size, 6, none⟩ = some (.slice ab m.servers.length cb) ∧ w5.cell? ⟨w.heap.size, 7, none⟩ = some (.slice am m.more.length cm) ∧ Below w4.heap.size w4 w5 :=
  keepM hz4 (keepM hz4 ⟨x0, x1, x2, x3, x4, x5, x6, x7, Below.refl _ _⟩ (keepA _ _)) k5
 clear x0 x1 x2 x3 x4 x5 x6 x7 x8 k5
 obtain ⟨x0, x1, x2, x3, x4, x5, x6, x7, x8⟩ := C5
 have hz5 : w.heap.size < w5.heap.size := Nat.lt_of_lt_of_le hz4 x8.size
 have hmz : (mk [byte m.id, byte (m.id / 256)]).size = 2 := mk_size _
 have hB0 : Below w5.heap.size w5 w5 := Below.refl _ _
 have hB0d : Below w5.heap.size w5 w5.drew := (Below.refl _ _).drew
 obtain ⟨rep, hrep⟩ : ∃ b, b = m.reply := ⟨_, rfl⟩
 rw [← hrep] at x1
 have HRp : Hid (rep = m.reply) := hrep
 clear hrep
 have hmc : (mk [byte m.code]).size = 1 := mk_size _
 have hmn : (mk (nameW (tl m.name))).size = (nameW (tl m.name)).length := mk_size _
 have hm4 : (mk [byte m.ty, byte (m.answer.length : Int), byte (m.servers.length : Int), byte (m.more.length : Int)]).size = 4 := mk_size _
 have hma : (mk (listW m.answer)).size = (listW m.answer).length := mk_size _
 have hms : (mk (listW m.servers)).size = (listW m.servers).length := mk_size _
 have hmm : (mk (listW m.more)).size = (listW m.more).length := mk_size _
 cases rep
 ·go_wp2
  obtain ⟨acc, hacc⟩ : ∃ b, b = mk [byte m.id, byte (m.id / 256)] ++ ⟨#[113]⟩ := ⟨_, rfl⟩
  have ha3 : acc.size = 3 := by rw [hacc, ByteArray.size_append, hmz]; rfl
  rw [← hacc]
  have HA : Hid (acc = mk [byte m.id, byte (m.id / 256), if m.reply then 114 else 113]) := by rw [hacc]; exact kind_f m HRp.out
  clear hacc
  have hq1 : ¬ 9223372036854775807 < 4 + (nameW (tl m.name)).length := by omega
  have hq2 : ¬ 9223372036854775807 < 4 + (nameW (tl m.name)).length + 4 := by omega
  go_region_held3 (fun w' => w'.cell? ⟨w.heap.size, 0, none⟩ = some (.int .i64 m.id) ∧ w'.cell? ⟨w.heap.size, 1, none⟩ = some (.bool false) ∧ w'.cell? ⟨w.heap.size, 2, none⟩ = some (.int .i64 m.code) ∧ w'.cell? ⟨w.heap.size, 3, none⟩ = some (.string m.name) ∧ w'.cell? ⟨w.heap.size, 4, none⟩ = some (.int .i64 m.ty) ∧ w'.cell? ⟨w.heap.size, 5, none⟩ = some (.slice aa m.answer.length ca) ∧ w'.cell? ⟨w.heap.size, 6, none⟩ = some (.slice ab m.servers.length cb) ∧ w'.cell? ⟨w.heap.size, 7, none⟩ = some (.slice am m.more.length cm) ∧ Below w5.heap.size w5 w')
   (first | exact keepM hz5 (by assumption) (by assumption) | exact keepM hz5 (by assumption) (keepA _ _) | go_keep)
   (first
    | (go_at_call 159; refine (written_any m.name _ hbn).mono ?_; rintro e w6 ⟨rfl, kN⟩)
    | (go_at_call_of 158 (4 : Nat); refine (bytes_4 m.ty m.answer.length m.servers.length m.more.length _ _ (by omega) (by omega) (by omega) (by omega) (by first | (simp; done) | (have := kN.size; simp at this ⊢; omega) | (have h1 := kN.size; have h2 := kC.size; simp at h1 h2 ⊢; omega)) (by first | (simp; done) | (rw [kN.cell (p := ⟨_, _, none⟩) (by first | (simp; done) | (have := kC.size; simp at this ⊢; omega))]; first | (simp; done) | (rw [kC.cell (p := ⟨_, _, none⟩) (by first | (simp; done) | (simp; omega))]; simp))) (by first | (simp; done) | (rw [kN.cell (p := ⟨_, _, none⟩) (by first | (simp; done) | (have := kC.size; simp at this ⊢; omega))]; first | (simp; done) | (rw [kC.cell (p := ⟨_, _, none⟩) (by first | (simp; done) | (simp; omega))]; simp))) (by first | (simp; done) | (rw [kN.cell (p := ⟨_, _, none⟩) (by first | (simp; done) | (have := kC.size; simp at this ⊢; omega))]; first | (simp; done) | (rw [kC.cell (p := ⟨_, _, none⟩) (by first | (simp; done) | (simp; omega))]; simp))) (by first | (simp; done) | (rw [kN.cell (p := ⟨_, _, none⟩) (by first | (simp; done) | (have := kC.size; simp at this ⊢; omega))]; first | (simp; done) | (rw [kC.cell (p := ⟨_, _, none⟩) (by first | (simp; done) | (simp; omega))]; simp)))).mono ?_; rintro e wE ⟨rfl, kE⟩)
    | (go_at_call_of 158 (1 : Nat); refine (bytes_1 m.code _ _ (by omega) (by first | (simp; done) | (simp; omega)) (by simp)).mono ?_; rintro e w7 ⟨rfl, kC⟩))
  all_goals
   have hBE : Below w.heap.size w wE := hB5.step (Nat.le_refl _) (belM (wA := wE) (by assumption))
   go_wp2
   go_ret2
   exact ⟨ret_enc (by rw [HES.out]; exact msg_str HA.out) HEE.out.symm, hBE⟩
 ·go_wp2
  obtain ⟨acc, hacc⟩ : ∃ b, b = mk [byte m.id, byte (m.id / 256)] ++ ⟨#[114]⟩ := ⟨_, rfl⟩
  have ha3 : acc.size = 3 := by rw [hacc, ByteArray.size_append, hmz]; rfl
  rw [← hacc]
  have HA : Hid (acc = mk [byte m.id, byte (m.id / 256), if m.reply then 114 else 113]) := by rw [hacc]; exact kind_t m HRp.out
  clear hacc
  have hq1 : ¬ 9223372036854775807 < 4 + (nameW (tl m.name)).length := by omega
  have hq2 : ¬ 9223372036854775807 < 4 + (nameW (tl m.name)).length + 4 := by omega
  go_region_held3 (fun w' => w'.cell? ⟨w.heap.size, 0, none⟩ = some (.int .i64 m.id) ∧ w'.cell? ⟨w.heap.size, 1, none⟩ = some (.bool true) ∧ w'.cell? ⟨w.heap.size, 2, none⟩ = some (.int .i64 m.code) ∧ w'.cell? ⟨w.heap.size, 3, none⟩ = some (.string m.name) ∧ w'.cell? ⟨w.heap.size, 4, none⟩ = some (.int .i64 m.ty) ∧ w'.cell? ⟨w.heap.size, 5, none⟩ = some (.slice aa m.answer.length ca) ∧ w'.cell? ⟨w.heap.size, 6, none⟩ = some (.slice ab m.servers.length cb) ∧ w'.cell? ⟨w.heap.size, 7, none⟩ = some (.slice am m.more.length cm) ∧ Below w5.heap.size w5 w')
   (first | exact keepM hz5 (by assumption) (by assumption) | exact keepM hz5 (by assumption) (keepA _ _) | go_keep)
   (first
    | (go_at_call 159; refine (written_any m.name _ hbn).mono ?_; rintro e w6 ⟨rfl, kN⟩)
    | (go_at_call_of 158 (4 : Nat); refine (bytes_4 m.ty m.answer.length m.servers.length m.more.length _ _ (by omega) (by omega) (by omega) (by omega) (by first | (simp; done) | (have := kN.size; simp at this ⊢; omega) | (have h1 := kN.size; have h2 := kC.size; simp at h1 h2 ⊢; omega)) (by first | (simp; done) | (rw [kN.cell (p := ⟨_, _, none⟩) (by first | (simp; done) | (have := kC.size; simp at this ⊢; omega))]; first | (simp; done) | (rw [kC.cell (p := ⟨_, _, none⟩) (by first | (simp; done) | (simp; omega))]; simp))) (by first | (simp; done) | (rw [kN.cell (p := ⟨_, _, none⟩) (by first | (simp; done) | (have := kC.size; simp at this ⊢; omega))]; first | (simp; done) | (rw [kC.cell (p := ⟨_, _, none⟩) (by first | (simp; done) | (simp; omega))]; simp))) (by first | (simp; done) | (rw [kN.cell (p := ⟨_, _, none⟩) (by first | (simp; done) | (have := kC.size; simp at this ⊢; omega))]; first | (simp; done) | (rw [kC.cell (p := ⟨_, _, none⟩) (by first | (simp; done) | (simp; omega))]; simp))) (by first | (simp; done) | (rw [kN.cell (p := ⟨_, _, none⟩) (by first | (simp; done) | (have := kC.size; simp at this ⊢; omega))]; first | (simp; done) | (rw [kC.cell (p := ⟨_, _, none⟩) (by first | (simp; done) | (simp; omega))]; simp)))).mono ?_; rintro e wE ⟨rfl, kE⟩)
    | (go_at_call_of 158 (1 : Nat); refine (bytes_1 m.code _ _ (by omega) (by first | (simp; done) | (simp; omega)) (by simp)).mono ?_; rintro e w7 ⟨rfl, kC⟩))
  all_goals
   have hBE : Below w.heap.size w wE := hB5.step (Nat.le_refl _) (belM (wA := wE) (by assumption))
   go_wp2
   go_ret2
   exact ⟨ret_enc (by rw [HES.out]; exact msg_str HA.out) HEE.out.symm, hBE⟩
end Go.Proofs.YtefdokkadckbbaaGreatDoor
