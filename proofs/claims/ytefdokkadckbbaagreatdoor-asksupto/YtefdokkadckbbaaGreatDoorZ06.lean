/- B5 B6 C1 C2 -/
import Derived.Test.YtefdokkadckbbaaGreatDoorZ04
section
namespace Go.Proofs.YtefdokkadckbbaaGreatDoor
open Go.RowKit
set_option maxRecDepth 100000
theorem keepM {g : Nat} {W0 wA wB : World} {v0 v1 v2 v3 v4 v5 v6 v7 : Value} (hg : g < W0.heap.size)
  (h : wA.cell? ⟨g, 0, none⟩ = some v0 ∧ wA.cell? ⟨g, 1, none⟩ = some v1 ∧ wA.cell? ⟨g, 2, none⟩ = some v2 ∧ wA.cell? ⟨g, 3, none⟩ = some v3 ∧ wA.cell? ⟨g, 4, none⟩ = some v4 ∧ wA.cell? ⟨g, 5, none⟩ = some v5 ∧ wA.cell? ⟨g, 6, none⟩ = some v6 ∧ wA.cell? ⟨g, 7, none⟩ = some v7 ∧ Below W0.heap.size W0 wA) (hb : Below wA.heap.size wA wB) :
  wB.cell? ⟨g, 0, none⟩ = some v0 ∧ wB.cell? ⟨g, 1, none⟩ = some v1 ∧ wB.cell? ⟨g, 2, none⟩ = some v2 ∧ wB.cell? ⟨g, 3, none⟩ = some v3 ∧ wB.cell? ⟨g, 4, none⟩ = some v4 ∧ wB.cell? ⟨g, 5, none⟩ = some v5 ∧ wB.cell? ⟨g, 6, none⟩ = some v6 ∧ wB.cell? ⟨g, 7, none⟩ = some v7 ∧ Below W0.heap.size W0 wB := by
 obtain ⟨h0, h1, h2, h3, h4, h5, h6, h7, h8⟩ := h
 have hlt : g < wA.heap.size := Nat.lt_of_lt_of_le hg h8.size
 simp only [hb.cell (p := ⟨g, _, none⟩) hlt]
 exact ⟨h0, h1, h2, h3, h4, h5, h6, h7, h8.trans (hb.mono h8.size)⟩
theorem belM {W0 wA : World} {c0 c1 c2 c3 c4 c5 c6 c7 : Prop} (h : c0 ∧ c1 ∧ c2 ∧ c3 ∧ c4 ∧ c5 ∧ c6 ∧ c7 ∧ Below W0.heap.size W0 wA) : Below W0.heap.size W0 wA := h.2.2.2.2.2.2.2.2
def kindN (b : Bool) : Int := if b then 114 else 113
theorem kind_byte (b : Bool) : b1 (kindN b) = mk [if b then 114 else 113] := by cases b <;> rfl
theorem kindN_any (i : Int) (r : Bool) (c : Int) (nm : ByteArray) (t : Int) (a b m : Value) (w : World) :
  Calls Tryz.prog 178 #[.agg #[.int .i64 i, .bool r, .int .i64 c, .string nm, .int .i64 t, a, b, m]] w fun e w' => e = .returned (.int .i64 (kindN r)) ∧ Below w.heap.size w w' := kindOf_any i r c nm t a b m w
theorem msg_flat (m : Msg) {ss : List ByteArray} (h : ss.map tl = labs (tl m.name)) :
  flat [b2 m.id, b1 (kindN m.reply), b1 m.code, mk (labsW (ss.map tl)), b1 m.ty, b1 m.answer.length, b1 m.servers.length, b1 m.more.length, mk (listW m.answer), mk (listW m.servers), mk (listW m.more)] = msgW m := by
 rw [h, ← nameW_eq, kind_byte]
 simp [flat, tl_mk', b1_mk, b2_mk, msgW]
theorem msgW_length (m : Msg) (h : msgOk m = true) : (msgW m).length ≤ 3000 := by
 unfold msgOk listOk at h
 simp only [Bool.and_eq_true, decide_eq_true_eq] at h
 obtain ⟨⟨⟨⟨_, hn⟩, h1, h1'⟩, h2, h2'⟩, h3, h3'⟩ := h
 have a0 := nameW_length _ hn
 have a1 := listW_length _ h1'
 have a2 := listW_length _ h2'
 have a3 := listW_length _ h3'
 unfold msgW
 simp only [List.length_append, List.length_cons, List.length_nil]
 omega
set_option maxHeartbeats 4000000 in
theorem messageBytes_any (m : Msg) (va vs vm : Value) (w : World) (hG : Good w) (hok : msgOk m = true) (ha : RecSl w va m.answer) (hs : RecSl w vs m.servers) (hm : RecSl w vm m.more) :
  Calls Tryz.prog 134 #[.agg #[.int .i64 m.id, .bool m.reply, .int .i64 m.code, .string m.name, .int .i64 m.ty, va, vs, vm]] w fun e w' => e = .returned (.string (mk (msgW m))) ∧ Below w.heap.size w w' := by
 obtain ⟨aa, ca, rfl, hra⟩ := ha
 obtain ⟨ab, cb, rfl, hrs⟩ := hs
 obtain ⟨am, cm, rfl, hrm⟩ := hm
 have hA : RecSl w (.slice aa m.answer.length ca) m.answer := ⟨aa, ca, rfl, hra⟩
 have hSv : RecSl w (.slice ab m.servers.length cb) m.servers := ⟨ab, cb, rfl, hrs⟩
 have hM : RecSl w (.slice am m.more.length cm) m.more := ⟨am, cm, rfl, hrm⟩
 clear hra hrs hrm
 have hlen := msgW_length m hok
 have hoks : nameOk (tl m.name) = true ∧ listOk m.answer = true ∧ listOk m.servers = true ∧ listOk m.more = true := by
  unfold msgOk at hok
  simp only [Bool.and_eq_true] at hok
  exact ⟨hok.1.1.1.2, hok.1.1.2, hok.1.2, hok.2⟩
 obtain ⟨hnm, o1, o2, o3⟩ := hoks
 have hl1 : m.answer.length ≤ 10 := by unfold listOk at o1; simp at o1; omega
 have hl2 : m.servers.length ≤ 10 := by unfold listOk at o2; simp at o2; omega
 have hl3 : m.more.length ≤ 10 := by unfold listOk at o3; simp at o3; omega
 obtain ⟨O, hO⟩ : ∃ O, O = Obj.cells #[.int .i64 m.id, .bool m.reply, .int .i64 m.code, .string m.name, .int .i64 m.ty, .slice aa m.answer.length ca, .slice ab m.servers.length cb, .slice am m.more.length cm] 27 := ⟨_, rfl⟩
 have hG' := hG.alloc O
 have hB := (Below.refl w.heap.size w).alloc (Nat.le_refl _) O
 have hgl : w.heap.size < (w.alloc O).heap.size := by simp
 have c0 : (w.alloc O).cell? ⟨w.heap.size, 0, none⟩ = some (.int .i64 m.id) := by rw [hO]; simp
 have c1 : (w.alloc O).cell? ⟨w.heap.size, 1, none⟩ = some (.bool m.reply) := by rw [hO]; simp
 have c2 : (w.alloc O).cell? ⟨w.heap.size, 2, none⟩ = some (.int .i64 m.code) := by rw [hO]; simp
 have c3 : (w.alloc O).cell? ⟨w.heap.size, 3, none⟩ = some (.string m.name) := by rw [hO]; simp
 have c4 : (w.alloc O).cell? ⟨w.heap.size, 4, none⟩ = some (.int .i64 m.ty) := by rw [hO]; simp
 have c5 : (w.alloc O).cell? ⟨w.heap.size, 5, none⟩ = some (.slice aa m.answer.length ca) := by rw [hO]; simp
 have c6 : (w.alloc O).cell? ⟨w.heap.size, 6, none⟩ = some (.slice ab m.servers.length cb) := by rw [hO]; simp
 have c7 : (w.alloc O).cell? ⟨w.heap.size, 7, none⟩ = some (.slice am m.more.length cm) := by rw [hO]; simp
 generalize hW : w.alloc O = W0 at *
 have HW : Hid (w.alloc (Obj.cells #[.int .i64 m.id, .bool m.reply, .int .i64 m.code, .string m.name, .int .i64 m.ty, .slice aa m.answer.length ca, .slice ab m.servers.length cb, .slice am m.more.length cm] 27) = W0) := by rw [hO] at hW; exact hW
 clear hW hO
 go_enter Tryz.func134, Tryz.ntmps134
 go_wp2
 rw [HW.out]
 have hB0 : Below W0.heap.size W0 W0 := Below.refl _ _
 have hB0d : Below W0.heap.size W0 W0.drew := (Below.refl _ _).drew
 go_region_held3 (fun w' => w'.cell? ⟨w.heap.size, 0, none⟩ = some (.int .i64 m.id) ∧ w'.cell? ⟨w.heap.size, 1, none⟩ = some (.bool m.reply) ∧ w'.cell? ⟨w.heap.size, 2, none⟩ = some (.int .i64 m.code) ∧ w'.cell? ⟨w.heap.size, 3, none⟩ = some (.string m.name) ∧ w'.cell? ⟨w.heap.size, 4, none⟩ = some (.int .i64 m.ty) ∧ w'.cell? ⟨w.heap.size, 5, none⟩ = some (.slice aa m.answer.length ca) ∧ w'.cell? ⟨w.heap.size, 6, none⟩ = some (.slice ab m.servers.length cb) ∧ w'.cell? ⟨w.heap.size, 7, none⟩ = some (.slice am m.more.length cm) ∧ Below W0.heap.size W0 w')
  (first | exact keepM hgl (by assumption) (by assumption) | exact keepM hgl (by assumption) (keepA _ _) | go_keep)
  (first
   | (go_at_call 176; refine (twoBytes_any _ _).mono ?_; rintro e w1 ⟨rfl, hb⟩)
   | (go_at_call 178; refine (kindN_any _ _ _ _ _ _ _ _ _).mono ?_; rintro e w1 ⟨rfl, hb⟩)
   | (go_at_call 177; refine (oneByte_any _ _).mono ?_; rintro e w1 ⟨rfl, hb⟩)
   | (go_at_call 180; refine (Labels_any _ _ (hG'.below (belM (by assumption))) (nameOk_small hnm)).mono ?_; rintro e w1 ⟨v, ss, rfl, hmap, hsl, hb⟩; have HM : Hid (ss.map tl = labs (tl m.name)) := hmap; clear hmap)
   | (go_at_call 179; refine (nameBytes_any v ss _ (by assumption) (nameOk_parts HM.out hnm).1 (nameOk_parts HM.out hnm).2).mono ?_; rintro e w1 ⟨rfl, hb⟩)
   | (go_at_call_of 181 (Value.slice aa m.answer.length ca); refine (listBytes_any _ m.answer _ (hG'.below (belM (by assumption))) ((hA.below hB).below (belM (by assumption))) o1).mono ?_; rintro e w1 ⟨rfl, hb⟩)
   | (go_at_call_of 181 (Value.slice ab m.servers.length cb); refine (listBytes_any _ m.servers _ (hG'.below (belM (by assumption))) ((hSv.below hB).below (belM (by assumption))) o2).mono ?_; rintro e w1 ⟨rfl, hb⟩)
   | (go_at_call_of 181 (Value.slice am m.more.length cm); refine (listBytes_any _ m.more _ (hG'.below (belM (by assumption))) ((hM.below hB).below (belM (by assumption))) o3).mono ?_; rintro e w1 ⟨rfl, hb⟩)
   | (go_at_call 175; refine (together_any _ [b2 m.id, b1 (kindN m.reply), b1 m.code, mk (labsW (ss.map tl)), b1 m.ty, b1 m.answer.length, b1 m.servers.length, b1 m.more.length, mk (listW m.answer), mk (listW m.servers), mk (listW m.more)] _ (StrSl_lit _ _) (by simp) (by rw [msg_flat m HM.out]; omega)).mono ?_; rw [msg_flat m HM.out]; rintro e wE ⟨rfl, hb⟩))
 have hend : Below w.heap.size w wE := hB.trans ((belM (wA := wE) (by assumption)).mono hB.size)
 go_wp2
 go_ret
 exact ⟨rfl, hend⟩
end Go.Proofs.YtefdokkadckbbaaGreatDoor
end
section
namespace Go.Proofs.YtefdokkadckbbaaGreatDoor
open Go.RowKit
set_option maxRecDepth 100000
def encS (m : Msg) : ByteArray := if msgOk m then mk (msgW m) else ⟨#[]⟩
def encE (m : Msg) : Int := if msgOk m then 0 else 1
theorem encS_yes {m : Msg} (h : msgOk m = true) : encS m = mk (msgW m) := by unfold encS; rw [h]; rfl
theorem encS_no {m : Msg} (h : msgOk m = false) : encS m = ⟨#[]⟩ := by unfold encS; rw [h]; rfl
theorem encE_yes {m : Msg} (h : msgOk m = true) : encE m = 0 := by unfold encE; rw [h]; rfl
theorem encE_no {m : Msg} (h : msgOk m = false) : encE m = 1 := by unfold encE; rw [h]; rfl
theorem ret_enc {a b : ByteArray} {x y : Int} (h : a = b) (h' : x = y) : Ending.returned (.tuple #[.string a, .int .i64 x]) = .returned (.tuple #[.string b, .int .i64 y]) := by rw [h, h']
set_option maxHeartbeats 1000000 in
theorem wEncode_any (m : Msg) (va vs vm : Value) (w : World) (hG : Good w) (hS : SmallM m) (ha : RecSl w va m.answer) (hs : RecSl w vs m.servers) (hm : RecSl w vm m.more) :
  Calls Tryz.prog 95 #[.agg #[.int .i64 m.id, .bool m.reply, .int .i64 m.code, .string m.name, .int .i64 m.ty, va, vs, vm]] w fun e w' => e = .returned (.tuple #[.string (encS m), .int .i64 (encE m)]) ∧ Below w.heap.size w w' := by
 obtain ⟨aa, ca, rfl, hra⟩ := ha
 obtain ⟨ab, cb, rfl, hrs⟩ := hs
 obtain ⟨am, cm, rfl, hrm⟩ := hm
 have hA : RecSl w (.slice aa m.answer.length ca) m.answer := ⟨aa, ca, rfl, hra⟩
 have hSv : RecSl w (.slice ab m.servers.length cb) m.servers := ⟨ab, cb, rfl, hrs⟩
 have hM : RecSl w (.slice am m.more.length cm) m.more := ⟨am, cm, rfl, hrm⟩
 clear hra hrs hrm
 obtain ⟨O, hO⟩ : ∃ O, O = Obj.cells #[.int .i64 m.id, .bool m.reply, .int .i64 m.code, .string m.name, .int .i64 m.ty, .slice aa m.answer.length ca, .slice ab m.servers.length cb, .slice am m.more.length cm] 27 := ⟨_, rfl⟩
 have hB := (Below.refl w.heap.size w).alloc (Nat.le_refl _) O
 have hG' := hG.alloc O
 cases hok : msgOk m with
 | false =>
  have es := encS_no hok
  have ee := encE_no hok
  subst hO
  go_enter Tryz.func95, Tryz.ntmps95
  go_wp2_with (go_at_call 133; refine (isMessage_any m _ _ _ _ hG' hS (hA.below hB) (hSv.below hB) (hM.below hB)).mono ?_; rw [hok]; rintro e w1 ⟨rfl, hb⟩)
  go_ret2
  exact ⟨ret_enc es.symm ee.symm, hB.trans (hb.mono hB.size)⟩
 | true =>
  have es := encS_yes hok
  have ee := encE_yes hok
  subst hO
  go_enter Tryz.func95, Tryz.ntmps95
  go_wp2_with fail
  refine (isMessage_any m _ _ _ _ hG' hS (hA.below hB) (hSv.below hB) (hM.below hB)).mono ?_
  rw [hok]
  rintro e w1 ⟨rfl, hb⟩
  have hG1 := hG'.below hb
  have hB1 := hB.trans (hb.mono hB.size)
  obtain ⟨hc1, _⟩ := bcell hb
  go_wp2_with fail
  refine (messageBytes_any m _ _ _ _ hG1 hok (hA.below hB1) (hSv.below hB1) (hM.below hB1)).mono ?_
  rintro e w2 ⟨rfl, hb2⟩
  go_wp2
  go_ret2
  exact ⟨ret_enc es.symm ee.symm, hB1.step (Nat.le_refl _) hb2⟩
end Go.Proofs.YtefdokkadckbbaaGreatDoor
end
section
namespace Go.Proofs.YtefdokkadckbbaaGreatDoor
open Go.RowKit
set_option maxRecDepth 100000
theorem info5 : (Tryz.prog.info? 5).map (fun i => (i.zero, i.size, i.bytes)) = some (some (.int .u8 0), 1, 1) := by kernel_rfl
def bc (xs : List Int) (k : Nat) : List Value := (xs.take k).map (fun x => Value.int .u8 (x % 256)) ++ List.replicate (xs.length - k) (.int .u8 0)
theorem bc_zero (xs : List Int) : bc xs 0 = (madeCells #[Value.int .u8 0] xs.length).toList := by
 rw [toList_madeCells_one]; simp [bc]
theorem bc_length (xs : List Int) (k : Nat) (h : k ≤ xs.length) : (bc xs k).length = xs.length := by simp [bc]; omega
theorem bc_set (xs : List Int) (k : Nat) (x : Int) (hx : xs[k]? = some x) : (bc xs k).set k (.int .u8 (x % 256)) = bc xs (k + 1) := by
 have hk : k < xs.length := (List.getElem?_eq_some_iff.1 hx).1
 unfold bc
 obtain ⟨n, hn⟩ : ∃ n, xs.length - k = n + 1 := ⟨xs.length - k - 1, by omega⟩
 have hn2 : xs.length - (k + 1) = n := by omega
 rw [hn, hn2, List.set_append_right _ _ (by simp; omega), List.take_add_one, hx]
 have : k - (List.map (fun x => Value.int IntKind.u8 (x % 256)) (List.take k xs)).length = 0 := by simp; omega
 rw [this, List.replicate_succ]
 simp
theorem bc_all (xs : List Int) (k : Nat) (h : xs.length ≤ k) : bc xs k = xs.map (fun x => Value.int .u8 (x % 256)) := by
 unfold bc
 rw [List.take_of_length_le h, show xs.length - k = 0 by omega]; simp
theorem bytes_conv (xs : List Int) (w wr : World) (k : Nat) (hk : xs.length ≤ k) (hown : wr.ownsRow w.heap.size 5 1 (.slice (some ⟨w.heap.size, 0, none⟩) xs.length xs.length) xs.length (bc xs k)) :
  (convert 336 9 (.slice (some ⟨w.heap.size, 0, none⟩) xs.length xs.length)).run Tryz.prog wr = .ok (.string (mk (xs.map byte))) wr := by
 rw [run_convert_bytes_arg wr 336 5 u137 u5 w.heap.size 0 xs.length xs.length (xs.map (· % 256)) (by simp) (fun i hi => ?_) 9 u9]
 ·congr 2
  apply tl_inj
  rw [tl_mk']
  unfold strOfNums
  rw [tl_mk]
  simp only [List.map_map]
  rfl
 ·rw [Nat.zero_add, hown.cellAt i (by omega), bc_all xs k hk]
  simp [List.getD, List.getElem?_eq_getElem hi]
set_option maxHeartbeats 1000000 in
theorem bytes_any (g o c : Nat) (xs : List Int) (w : World) (hg : g < w.heap.size) (hcell : ∀ (j : Nat) (x : Int), xs[j]? = some x → w.cell? ⟨g, o + j, none⟩ = some (.int .i64 x)) (h0 : ∀ x ∈ xs, 0 ≤ x ∧ x ≤ 1048576) (hN : xs.length ≤ 1000) :
  Calls Tryz.prog 158 #[.slice (some ⟨g, o, none⟩) xs.length c] w fun e w' => e = .returned (.string (mk (xs.map byte))) ∧ Below w.heap.size w w' := by
 obtain ⟨i0, hi, hz0, hz1, hz2⟩ := info_parts info5
 have HC : Hid (∀ (j : Nat) (x : Int), xs[j]? = some x → w.cell? ⟨g, o + j, none⟩ = some (.int .i64 x)) := hcell
 have H0 : Hid (∀ x ∈ xs, 0 ≤ x ∧ x ≤ 1048576) := h0
 clear hcell h0
 go_enter Tryz.func158, Tryz.ntmps158
 go_wp2_with (at_make; refine wpList_make_full _ rfl _ _ 336 rfl w.heap.size 5 i0 (.int .u8 0) 1 u137 hi hz0 hz1 _ _ _ _ xs.length rfl rfl rfl rfl ?b2 ?b3 (Nat.le_refl _) ?_)
 case b2 => rw [hz2]; omega
 case b3 => unfold maxLen; omega
 intro w0 hown0 hgrow0
 have hB0 : Below w.heap.size w w0 := (Below.refl _ _).grown hgrow0 (Nat.le_refl _) (fun k h => by cases h)
 clear hgrow0
 go_wp2
 go_loopw [4] (fun i wr => ∃ k : Nat, k ≤ xs.length ∧ i = .int .i64 k ∧ wr.ownsRow w.heap.size 5 1 (.slice (some ⟨w.heap.size, 0, none⟩) xs.length xs.length) xs.length (bc xs k) ∧ Below w.heap.size w wr) (fun i _ => xs.length - (intOf i).toNat)
 case atStart => exact ⟨0, Nat.zero_le _, rfl, by rw [bc_zero]; exact hown0, hB0⟩
 case round =>
  obtain ⟨k, hk, rfl, hown, hb⟩ := hrel
  by_cases hlt : k < xs.length
  ·obtain ⟨x, hx⟩ : ∃ x, xs[k]? = some x := ⟨xs[k], List.getElem?_eq_getElem hlt⟩
   have hcx : wr.cell? ⟨g, o + k, none⟩ = some (.int .i64 x) := (hb.cell (p := ⟨g, o + k, none⟩) hg).trans (HC.out k x hx)
   obtain ⟨x0, x1⟩ := H0.out x (List.mem_of_getElem? hx)
   have HX : Hid (xs[k]? = some x) := hx
   clear hx
   have hfz := hown.frozenAt k
   obtain ⟨u, hu⟩ : ∃ u, wr.cell? ⟨w.heap.size, k, none⟩ = some u := by
    rw [hown.cellAt k (by omega)]
    exact ⟨_, List.getElem?_eq_getElem (by rw [bc_length _ _ hk]; exact hlt)⟩
   have HO : Hid ((wr.setCell ⟨w.heap.size, k, none⟩ (.int .u8 (x % 256))).ownsRow w.heap.size 5 1 (.slice (some ⟨w.heap.size, 0, none⟩) xs.length xs.length) xs.length (bc xs (k + 1))) := by
    have := (hown.stored k (.int .u8 (x % 256))).1
    rw [bc_set xs k x HX.out] at this
    exact this
   clear hown
   go_wp2
   go_roundw
   case rel => exact ⟨k + 1, hlt, by go_num, HO.out, hb.setCell (Nat.le_refl _) _⟩
   case measure => simp [intOf]; omega
  ·have hcv := bytes_conv xs w wr k (by omega) hown
   clear hown
   go_wp2
   go_ret
   exact ⟨rfl, hb⟩
end Go.Proofs.YtefdokkadckbbaaGreatDoor
end
section
namespace Go.Proofs.YtefdokkadckbbaaGreatDoor
open Go.RowKit
set_option maxRecDepth 100000
theorem bytes_1 (x : Int) (g : Nat) (w : World) (hx : 0 ≤ x ∧ x ≤ 1048576) (hg : g < w.heap.size) (h0 : w.cell? ⟨g, 0, none⟩ = some (.int .i64 x)) :
  Calls Tryz.prog 158 #[.slice (some ⟨g, 0, none⟩) 1 1] w fun e w' => e = .returned (.string (mk [byte x])) ∧ Below w.heap.size w w' :=
 bytes_any g 0 1 [x] w hg (fun j y hj => by
  match j, hj with
  | 0, hj => simp at hj; subst hj; exact h0) (by simpa using hx) (by simp)
theorem bytes_2 (x y : Int) (g : Nat) (w : World) (hx : 0 ≤ x ∧ x ≤ 1048576) (hy : 0 ≤ y ∧ y ≤ 1048576) (hg : g < w.heap.size) (h0 : w.cell? ⟨g, 0, none⟩ = some (.int .i64 x)) (h1 : w.cell? ⟨g, 1, none⟩ = some (.int .i64 y)) :
  Calls Tryz.prog 158 #[.slice (some ⟨g, 0, none⟩) 2 2] w fun e w' => e = .returned (.string (mk [byte x, byte y])) ∧ Below w.heap.size w w' :=
 bytes_any g 0 2 [x, y] w hg (fun j z hj => by
  match j, hj with
  | 0, hj => simp at hj; subst hj; exact h0
  | 1, hj => simp at hj; subst hj; exact h1) (by simp; omega) (by simp)
theorem bytes_3 (x y z : Int) (g : Nat) (w : World) (hx : 0 ≤ x ∧ x ≤ 1048576) (hy : 0 ≤ y ∧ y ≤ 1048576) (hz : 0 ≤ z ∧ z ≤ 1048576) (hg : g < w.heap.size) (h0 : w.cell? ⟨g, 0, none⟩ = some (.int .i64 x)) (h1 : w.cell? ⟨g, 1, none⟩ = some (.int .i64 y)) (h2 : w.cell? ⟨g, 2, none⟩ = some (.int .i64 z)) :
  Calls Tryz.prog 158 #[.slice (some ⟨g, 0, none⟩) 3 3] w fun e w' => e = .returned (.string (mk [byte x, byte y, byte z])) ∧ Below w.heap.size w w' :=
 bytes_any g 0 3 [x, y, z] w hg (fun j u hj => by
  match j, hj with
  | 0, hj => simp at hj; subst hj; exact h0
  | 1, hj => simp at hj; subst hj; exact h1
  | 2, hj => simp at hj; subst hj; exact h2) (by simp; omega) (by simp)
theorem bytes_4 (x y z t : Int) (g : Nat) (w : World) (hx : 0 ≤ x ∧ x ≤ 1048576) (hy : 0 ≤ y ∧ y ≤ 1048576) (hz : 0 ≤ z ∧ z ≤ 1048576) (ht : 0 ≤ t ∧ t ≤ 1048576) (hg : g < w.heap.size) (h0 : w.cell? ⟨g, 0, none⟩ = some (.int .i64 x)) (h1 : w.cell? ⟨g, 1, none⟩ = some (.int .i64 y)) (h2 : w.cell? ⟨g, 2, none⟩ = some (.int .i64 z)) (h3 : w.cell? ⟨g, 3, none⟩ = some (.int .i64 t)) :
  Calls Tryz.prog 158 #[.slice (some ⟨g, 0, none⟩) 4 4] w fun e w' => e = .returned (.string (mk [byte x, byte y, byte z, byte t])) ∧ Below w.heap.size w w' :=
 bytes_any g 0 4 [x, y, z, t] w hg (fun j u hj => by
  match j, hj with
  | 0, hj => simp at hj; subst hj; exact h0
  | 1, hj => simp at hj; subst hj; exact h1
  | 2, hj => simp at hj; subst hj; exact h2
  | 3, hj => simp at hj; subst hj; exact h3) (by simp; omega) (by simp)
theorem tl_append (a b : ByteArray) : tl (a ++ b) = tl a ++ tl b := by simp [tl]
theorem pp_str {ss : List ByteArray} {k : Nat} {x acc : ByteArray} (ha : acc = mk (flat (pp (ss.take k)))) (hx : ss[k]? = some x) : acc ++ mk [byte (x.size : Int)] ++ x = mk (flat (pp (ss.take (k + 1)))) := by
 apply tl_inj
 rw [tl_append, tl_append, ha, tl_mk', tl_mk', tl_mk', pp_next hx, flat_append]
 simp [flat, b1_mk, tl_mk']
theorem bel1 {W0 wA : World} {c0 : Prop} (h : c0 ∧ Below W0.heap.size W0 wA) : Below W0.heap.size W0 wA := h.2
theorem keep1 {g o : Nat} {W0 wA wB : World} {v0 : Value} (hg : g < W0.heap.size)
  (h : wA.cell? ⟨g, o, none⟩ = some v0 ∧ Below W0.heap.size W0 wA) (hb : Below wA.heap.size wA wB) :
  wB.cell? ⟨g, o, none⟩ = some v0 ∧ Below W0.heap.size W0 wB := by
 obtain ⟨h0, h8⟩ := h
 have hlt : g < wA.heap.size := Nat.lt_of_lt_of_le hg h8.size
 rw [hb.cell (p := ⟨g, _, none⟩) hlt]
 exact ⟨h0, h8.trans (hb.mono h8.size)⟩
set_option maxHeartbeats 2000000 in
theorem written_any (s : ByteArray) (w : World) (hn : nameOk (tl s) = true) :
  Calls Tryz.prog 159 #[.string s] w fun e w' => e = .returned (.string (mk (nameW (tl s)))) ∧ Below w.heap.size w w' := by
 have hs := nameOk_small hn
 go_enter Tryz.func159, Tryz.ntmps159
 go_wp2_with fail
 refine (split_any s _ hs).mono ?_
 rintro e w1 ⟨v, ss, rfl, hmap, hsl, hb⟩
 obtain ⟨h5, h6⟩ := nameOk_parts hmap hn
 obtain ⟨a, c, rfl, hcell⟩ := hsl.any
 have HM : Hid (ss.map tl = labs (tl s)) := hmap
 have HC : Hid (∀ (j : Nat) (x : ByteArray), ss[j]? = some x → ∃ g o, a = some ⟨g, o, none⟩ ∧ g < w1.heap.size ∧ w1.cell? ⟨g, o + j, none⟩ = some (.string x)) := hcell
 have H6 : Hid (∀ (j : Nat) (x : ByteArray), ss[j]? = some x → x.size ≤ 6) := h6
 clear hmap hcell h6 hsl
 go_wp2
 go_loopw [3, 5] (fun v i wr => ∃ k : Nat, k ≤ ss.length ∧ i = .int .i64 k ∧ v = .string (mk (flat (pp (ss.take k)))) ∧ Below w1.heap.size w1 wr) (fun _ i _ => ss.length - (intOf i).toNat)
 case atStart => exact ⟨0, Nat.zero_le _, rfl, rfl, Below.refl _ _⟩
 case round =>
  obtain ⟨k, hk, rfl, rfl, hbr⟩ := hrel
  by_cases hlt : k < ss.length
  ·obtain ⟨x, hx⟩ := get_at hlt
   obtain ⟨g, o, rfl, hg, hcx0⟩ := HC.out k x hx
   have hcx : wr.cell? ⟨g, o + k, none⟩ = some (.string x) := (hbr.cell (p := ⟨g, o + k, none⟩) hg).trans hcx0
   clear hcx0
   have hx6 := H6.out k x hx
   have HX : Hid (ss[k]? = some x) := hx
   clear hx
   have hgr : g < wr.heap.size := Nat.lt_of_lt_of_le hg hbr.size
   obtain ⟨acc, hacc⟩ : ∃ acc, acc = mk (flat (pp (ss.take k))) := ⟨_, rfl⟩
   rw [← hacc]
   have hal : acc.size ≤ 100 := by
    rw [hacc, mk_size]
    have := flat_pp_le (ss.take k) (fun j y hy => H6.out j y (by rw [List.getElem?_take] at hy; split at hy <;> simp_all))
    rw [List.length_take] at this
    omega
   have HA : Hid (acc = mk (flat (pp (ss.take k)))) := hacc
   clear hacc
   have hB0 : Below wr.heap.size wr wr := Below.refl _ _
   have hB0d : Below wr.heap.size wr wr.drew := (Below.refl _ _).drew
   have hq1 : ¬ 9223372036854775807 < acc.size + 1 := by omega
   have hq2 : ¬ 9223372036854775807 < acc.size + 1 + x.size := by omega
   go_wp2
   go_region_held3 (fun w' => w'.cell? ⟨g, o + k, none⟩ = some (.string x) ∧ Below wr.heap.size wr w')
    (first | exact keep1 hgr (by assumption) (by assumption) | exact keep1 hgr (by assumption) (keepA _ _) | go_keep)
    (first
     | (go_at_call 158; refine (bytes_1 (x.size : Int) _ _ (by omega) (by simp) (by simp)).mono ?_; rintro e wE ⟨rfl, hbE⟩; have hmz := mk_size [byte (x.size : Int)]; simp only [List.length_cons, List.length_nil, Nat.zero_add] at hmz))
   have hend : Below w1.heap.size w1 wE := hbr.step (Nat.le_refl _) (bel1 (wA := wE) (by assumption))
   have HS : Hid (acc ++ mk [byte (x.size : Int)] ++ x = mk (flat (pp (ss.take (k + 1))))) := pp_str HA.out HX.out
   go_wp2
   go_roundw
   case rel => exact ⟨k + 1, hlt, by go_num, congrArg Value.string HS.out, hend⟩
   case measure => simp [intOf]; omega
  ·have hk' : ss.take k = ss := List.take_of_length_le (by omega)
   rw [hk']
   clear hk'
   have hfl := flat_pp_le ss H6.out
   obtain ⟨acc, hacc⟩ : ∃ acc, acc = mk (flat (pp ss)) := ⟨_, rfl⟩
   have hal : acc.size ≤ 100 := by rw [hacc, mk_size]; omega
   rw [← hacc]
   have HA : Hid (acc = mk (flat (pp ss))) := hacc
   clear hacc hfl
   go_wp2_with fail
   refine (bytes_1 0 _ _ (by omega) (by simp) (by simp)).mono ?_
   rintro e wE ⟨rfl, hbE⟩
   have hmz : (mk [byte 0]).size = 1 := mk_size _
   have hB2 : Below w.heap.size w wE := ((hb.step (Nat.le_refl _) hbr).alloc (hb.step (Nat.le_refl _) hbr).size _).step (Nat.le_refl _) hbE
   have HS : Hid (acc ++ mk [byte 0] = mk (nameW (tl s))) := by
    show _ = _
    rw [HA.out, nameW_eq, ← HM.out]
    apply tl_inj
    rw [tl_append, tl_mk', tl_mk', tl_mk', flat_pp]
    rfl
   go_wp2
   go_ret
   exact ⟨ret_str HS.out, hB2⟩
end Go.Proofs.YtefdokkadckbbaaGreatDoor
end
