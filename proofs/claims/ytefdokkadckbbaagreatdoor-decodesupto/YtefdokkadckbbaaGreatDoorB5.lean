/- wire.messageBytes, wire.Encode, signpost.Encode. -/
import Derived.Test.YtefdokkadckbbaaGreatDoorB4
namespace Go.Proofs.YtefdokkadckbbaaGreatDoor
open Go.RowKit
set_option maxRecDepth 100000

/-- A message's box stays as it was. -/
theorem keepM {g : Nat} {W0 wA wB : World} {v0 v1 v2 v3 v4 v5 v6 v7 : Value} (hg : g < W0.heap.size)
    (h : wA.cell? ⟨g, 0, none⟩ = some v0 ∧ wA.cell? ⟨g, 1, none⟩ = some v1 ∧ wA.cell? ⟨g, 2, none⟩ = some v2 ∧ wA.cell? ⟨g, 3, none⟩ = some v3 ∧ wA.cell? ⟨g, 4, none⟩ = some v4 ∧ wA.cell? ⟨g, 5, none⟩ = some v5 ∧ wA.cell? ⟨g, 6, none⟩ = some v6 ∧ wA.cell? ⟨g, 7, none⟩ = some v7 ∧ Below W0.heap.size W0 wA) (hb : Below wA.heap.size wA wB) :
    wB.cell? ⟨g, 0, none⟩ = some v0 ∧ wB.cell? ⟨g, 1, none⟩ = some v1 ∧ wB.cell? ⟨g, 2, none⟩ = some v2 ∧ wB.cell? ⟨g, 3, none⟩ = some v3 ∧ wB.cell? ⟨g, 4, none⟩ = some v4 ∧ wB.cell? ⟨g, 5, none⟩ = some v5 ∧ wB.cell? ⟨g, 6, none⟩ = some v6 ∧ wB.cell? ⟨g, 7, none⟩ = some v7 ∧ Below W0.heap.size W0 wB := by
  obtain ⟨h0, h1, h2, h3, h4, h5, h6, h7, h8⟩ := h
  have hlt : g < wA.heap.size := Nat.lt_of_lt_of_le hg h8.size
  simp only [hb.cell (p := ⟨g, _, none⟩) hlt]
  exact ⟨h0, h1, h2, h3, h4, h5, h6, h7, h8.trans (hb.mono h8.size)⟩
theorem belM {W0 wA : World} {c0 c1 c2 c3 c4 c5 c6 c7 : Prop} (h : c0 ∧ c1 ∧ c2 ∧ c3 ∧ c4 ∧ c5 ∧ c6 ∧ c7 ∧ Below W0.heap.size W0 wA) : Below W0.heap.size W0 wA := h.2.2.2.2.2.2.2.2

def kindN (b : Bool) : Int := if b then 114 else 113
theorem kind_byte (b : Bool) : b1 (kindN b) = mk [if b then 114 else 113] := by cases b <;> rfl
theorem kindN_any (i : Int) (r : Bool) (c : Int) (nm : ByteArray) (t : Int) (a b m : Value) (w : World) :
    Calls Tryz.prog 178 #[.agg #[.int .i64 i, .bool r, .int .i64 c, .string nm, .int .i64 t, a, b, m]] w fun e w' => e = .returned (.int .i64 (kindN r)) ∧ Below w.heap.size w w' := kindOf_any i r c nm t a b m w
theorem msg_flat (m : Msg) {ss : List ByteArray} (h : ss.map tl = labs (tl m.name)) :
    flat [b2 m.id, b1 (kindN m.reply), b1 m.code, mk (labsW (ss.map tl)), b1 m.ty, b1 m.answer.length, b1 m.servers.length, b1 m.more.length, mk (listW m.answer), mk (listW m.servers), mk (listW m.more)] = msgW m := by
  rw [h, ← nameW_eq, kind_byte]
  simp [flat, tl_mk', b1_mk, b2_mk, msgW]
theorem msgW_length (m : Msg) (h : msgOk m = true) : (msgW m).length ≤ 3000 := by
  unfold msgOk listOk at h
  simp only [Bool.and_eq_true, decide_eq_true_eq] at h
  obtain ⟨⟨⟨⟨_, hn⟩, h1, h1'⟩, h2, h2'⟩, h3, h3'⟩ := h
  have a0 := nameW_length _ hn
  have a1 := listW_length _ h1'
  have a2 := listW_length _ h2'
  have a3 := listW_length _ h3'
  unfold msgW
  simp only [List.length_append, List.length_cons, List.length_nil]
  omega

set_option maxHeartbeats 4000000 in
theorem messageBytes_any (m : Msg) (va vs vm : Value) (w : World) (hG : Good w) (hok : msgOk m = true) (ha : RecSl w va m.answer) (hs : RecSl w vs m.servers) (hm : RecSl w vm m.more) :
    Calls Tryz.prog 134 #[.agg #[.int .i64 m.id, .bool m.reply, .int .i64 m.code, .string m.name, .int .i64 m.ty, va, vs, vm]] w fun e w' => e = .returned (.string (mk (msgW m))) ∧ Below w.heap.size w w' := by
  obtain ⟨aa, ca, rfl, hra⟩ := ha
  obtain ⟨ab, cb, rfl, hrs⟩ := hs
  obtain ⟨am, cm, rfl, hrm⟩ := hm
  have hA : RecSl w (.slice aa m.answer.length ca) m.answer := ⟨aa, ca, rfl, hra⟩
  have hSv : RecSl w (.slice ab m.servers.length cb) m.servers := ⟨ab, cb, rfl, hrs⟩
  have hM : RecSl w (.slice am m.more.length cm) m.more := ⟨am, cm, rfl, hrm⟩
  clear hra hrs hrm
  have hlen := msgW_length m hok
  have hoks : nameOk (tl m.name) = true ∧ listOk m.answer = true ∧ listOk m.servers = true ∧ listOk m.more = true := by
    unfold msgOk at hok
    simp only [Bool.and_eq_true] at hok
    exact ⟨hok.1.1.1.2, hok.1.1.2, hok.1.2, hok.2⟩
  obtain ⟨hnm, o1, o2, o3⟩ := hoks
  have hl1 : m.answer.length ≤ 10 := by unfold listOk at o1; simp at o1; omega
  have hl2 : m.servers.length ≤ 10 := by unfold listOk at o2; simp at o2; omega
  have hl3 : m.more.length ≤ 10 := by unfold listOk at o3; simp at o3; omega
  obtain ⟨O, hO⟩ : ∃ O, O = Obj.cells #[.int .i64 m.id, .bool m.reply, .int .i64 m.code, .string m.name, .int .i64 m.ty, .slice aa m.answer.length ca, .slice ab m.servers.length cb, .slice am m.more.length cm] 27 := ⟨_, rfl⟩
  have hG' := hG.alloc O
  have hB := (Below.refl w.heap.size w).alloc (Nat.le_refl _) O
  have hgl : w.heap.size < (w.alloc O).heap.size := by simp
  have c0 : (w.alloc O).cell? ⟨w.heap.size, 0, none⟩ = some (.int .i64 m.id) := by rw [hO]; simp
  have c1 : (w.alloc O).cell? ⟨w.heap.size, 1, none⟩ = some (.bool m.reply) := by rw [hO]; simp
  have c2 : (w.alloc O).cell? ⟨w.heap.size, 2, none⟩ = some (.int .i64 m.code) := by rw [hO]; simp
  have c3 : (w.alloc O).cell? ⟨w.heap.size, 3, none⟩ = some (.string m.name) := by rw [hO]; simp
  have c4 : (w.alloc O).cell? ⟨w.heap.size, 4, none⟩ = some (.int .i64 m.ty) := by rw [hO]; simp
  have c5 : (w.alloc O).cell? ⟨w.heap.size, 5, none⟩ = some (.slice aa m.answer.length ca) := by rw [hO]; simp
  have c6 : (w.alloc O).cell? ⟨w.heap.size, 6, none⟩ = some (.slice ab m.servers.length cb) := by rw [hO]; simp
  have c7 : (w.alloc O).cell? ⟨w.heap.size, 7, none⟩ = some (.slice am m.more.length cm) := by rw [hO]; simp
  generalize hW : w.alloc O = W0 at *
  have HW : Hid (w.alloc (Obj.cells #[.int .i64 m.id, .bool m.reply, .int .i64 m.code, .string m.name, .int .i64 m.ty, .slice aa m.answer.length ca, .slice ab m.servers.length cb, .slice am m.more.length cm] 27) = W0) := by rw [hO] at hW; exact hW
  clear hW hO
  go_enter Tryz.func134, Tryz.ntmps134
  go_wp2
  rw [HW.out]
  have hB0 : Below W0.heap.size W0 W0 := Below.refl _ _
  have hB0d : Below W0.heap.size W0 W0.drew := (Below.refl _ _).drew
  go_region_held3 (fun w' => w'.cell? ⟨w.heap.size, 0, none⟩ = some (.int .i64 m.id) ∧ w'.cell? ⟨w.heap.size, 1, none⟩ = some (.bool m.reply) ∧ w'.cell? ⟨w.heap.size, 2, none⟩ = some (.int .i64 m.code) ∧ w'.cell? ⟨w.heap.size, 3, none⟩ = some (.string m.name) ∧ w'.cell? ⟨w.heap.size, 4, none⟩ = some (.int .i64 m.ty) ∧ w'.cell? ⟨w.heap.size, 5, none⟩ = some (.slice aa m.answer.length ca) ∧ w'.cell? ⟨w.heap.size, 6, none⟩ = some (.slice ab m.servers.length cb) ∧ w'.cell? ⟨w.heap.size, 7, none⟩ = some (.slice am m.more.length cm) ∧ Below W0.heap.size W0 w')
    (first | exact keepM hgl (by assumption) (by assumption) | exact keepM hgl (by assumption) (keepA _ _) | go_keep)
    (first
      | (go_at_call 176; refine (twoBytes_any _ _).mono ?_; rintro e w1 ⟨rfl, hb⟩)
      | (go_at_call 178; refine (kindN_any _ _ _ _ _ _ _ _ _).mono ?_; rintro e w1 ⟨rfl, hb⟩)
      | (go_at_call 177; refine (oneByte_any _ _).mono ?_; rintro e w1 ⟨rfl, hb⟩)
      | (go_at_call 180; refine (Labels_any _ _ (hG'.below (belM (by assumption))) (nameOk_small hnm)).mono ?_; rintro e w1 ⟨v, ss, rfl, hmap, hsl, hb⟩; have HM : Hid (ss.map tl = labs (tl m.name)) := hmap; clear hmap)
      | (go_at_call 179; refine (nameBytes_any v ss _ (by assumption) (nameOk_parts HM.out hnm).1 (nameOk_parts HM.out hnm).2).mono ?_; rintro e w1 ⟨rfl, hb⟩)
      | (go_at_call_of 181 (Value.slice aa m.answer.length ca); refine (listBytes_any _ m.answer _ (hG'.below (belM (by assumption))) ((hA.below hB).below (belM (by assumption))) o1).mono ?_; rintro e w1 ⟨rfl, hb⟩)
      | (go_at_call_of 181 (Value.slice ab m.servers.length cb); refine (listBytes_any _ m.servers _ (hG'.below (belM (by assumption))) ((hSv.below hB).below (belM (by assumption))) o2).mono ?_; rintro e w1 ⟨rfl, hb⟩)
      | (go_at_call_of 181 (Value.slice am m.more.length cm); refine (listBytes_any _ m.more _ (hG'.below (belM (by assumption))) ((hM.below hB).below (belM (by assumption))) o3).mono ?_; rintro e w1 ⟨rfl, hb⟩)
      | (go_at_call 175; refine (together_any _ [b2 m.id, b1 (kindN m.reply), b1 m.code, mk (labsW (ss.map tl)), b1 m.ty, b1 m.answer.length, b1 m.servers.length, b1 m.more.length, mk (listW m.answer), mk (listW m.servers), mk (listW m.more)] _ (StrSl_lit _ _) (by simp) (by rw [msg_flat m HM.out]; omega)).mono ?_; rw [msg_flat m HM.out]; rintro e wE ⟨rfl, hb⟩))
  have hend : Below w.heap.size w wE := hB.trans ((belM (wA := wE) (by assumption)).mono hB.size)
  go_wp2
  go_ret
  exact ⟨rfl, hend⟩
end Go.Proofs.YtefdokkadckbbaaGreatDoor
