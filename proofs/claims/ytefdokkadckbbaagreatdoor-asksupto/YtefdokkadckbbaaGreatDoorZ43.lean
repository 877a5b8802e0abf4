/- Pc -/
import Derived.Test.YtefdokkadckbbaaGreatDoorZ22
import Derived.BigGuardPart
namespace Go.Proofs.YtefdokkadckbbaaGreatDoor
open Go.RowKit
set_option maxRecDepth 100000
abbrev msgV (id : Int) (rp : Bool) (code : Int) (nm : ByteArray) (ty : Int) (va vs vm : Value) : Value := .agg #[.int .i64 id, .bool rp, .int .i64 code, .string nm, .int .i64 ty, va, vs, vm]
def askB (er code : Int) (na ns nn : Nat) (ty : Int) : Bool := decide (er = 0) && decide (code = 0) && !(decide (0 < na + ns + nn)) && (decide (1 ≤ ty) && decide (ty ≤ 3))
theorem own_shapeN {W : World} {b e sz n : Nat} {v : Value} {xs : List Value} (h : W.ownsRow b e sz v n xs) : ∃ a c, v = .slice a n c := by
 rcases h.2 with ⟨h1, h2⟩ | ⟨g, cap, cur, h1, _⟩
 ·exact ⟨none, 0, by rw [h1, h2]⟩
 ·exact ⟨_, _, h1⟩
theorem numS_top {t : List UInt8} {lo hi : Int} {n : Nat} {x : Int × Nat} (h : numS t lo hi n = some x) : x.1 ≤ hi := by
 unfold numS at h
 cases h0 : byteS t n with
 | none => rw [h0] at h; cases h
 | some y =>
  rw [h0, Option.bind_some] at h
  split at h
  ·rename_i hc; simp only [Option.some.injEq] at h; subst h; exact hc.2
  ·cases h
theorem recsS_len' {t : List UInt8} : ∀ {k n : Nat} {x : List Rec × Nat}, recsS t k n = some x → x.1.length = k
 | 0, n, x, h => by simp only [recsS, Option.some.injEq] at h; rw [← h]; rfl
 | k + 1, n, x, h => by
  simp only [recsS] at h
  cases h0 : recS t n with
  | none => rw [h0] at h; cases h
  | some r =>
   rw [h0, Option.bind_some] at h
   cases h1 : recsS t k r.2 with
   | none => rw [h1] at h; cases h
   | some y =>
    rw [h1] at h
    simp only [Option.map_some, Option.some.injEq] at h
    rw [← h, List.length_cons, recsS_len' h1]
theorem msgS_few {t : List UInt8} {m : Msg} (h : msgS t = some m) : m.answer.length ≤ 10 ∧ m.servers.length ≤ 10 ∧ m.more.length ≤ 10 := by
 unfold msgS at h
 split at h
 case isFalse => cases h
 simp only [Option.bind_eq_some_iff] at h
 obtain ⟨id, e0, rep, e1, code, e2, nm, e3, ty, e4, ka, ha, kb, hb, kc, hc, la, hla, lb, hlb, lc, hlc, h⟩ := h
 split at h
 case isFalse => cases h
 simp only [Option.some.injEq] at h
 subst h
 have h1 := numS_top ha
 have h2 := numS_top hb
 have h3 := numS_top hc
 have l1 := recsS_len' hla
 have l2 := recsS_len' hlb
 have l3 := recsS_len' hlc
 refine ⟨?_, ?_, ?_⟩
 ·show la.1.length ≤ 10; omega
 ·show lb.1.length ≤ 10; omega
 ·show lc.1.length ≤ 10; omega
theorem decode_parts (s : ByteArray) (w : World) (hs : s.size ≤ 1048576) : ∃ (er id : Int) (rp : Bool) (code : Int) (nm : ByteArray) (ty : Int) (na ns nn : Nat), (er = 0 ∨ er = 2) ∧ (na ≤ 10 ∧ ns ≤ 10 ∧ nn ≤ 10) ∧ (askB er code na ns nn ty = (askOk (msgS (tl s))).isSome) ∧ (∀ m, askOk (msgS (tl s)) = some m → m.id = id ∧ m.reply = rp ∧ code = 0 ∧ m.name = nm ∧ m.ty = ty ∧ na = 0 ∧ ns = 0 ∧ nn = 0) ∧
  Calls Tryz.prog 57 #[.string s] w fun e w' => Below w.heap.size w w' ∧ ∃ (aa as_ am : Option Addr) (ca cs cm : Nat), e = .returned (.tuple #[msgV id rp code nm ty (.slice aa na ca) (.slice as_ ns cs) (.slice am nn cm), .int .i64 er]) := by
 have hD := wDecode_any s w hs
 cases hm : msgS (tl s) with
 | none =>
  refine ⟨2, 0, false, 0, ⟨#[]⟩, 0, 0, 0, 0, .inr rfl, by simp, rfl, fun m h => (by cases h), hD.mono fun e w' h => ?_⟩
  rw [hm] at h
  exact ⟨h.1, none, none, none, 0, 0, 0, h.2⟩
 | some m =>
  refine ⟨0, m.id, m.reply, m.code, m.name, m.ty, m.answer.length, m.servers.length, m.more.length, .inl rfl, msgS_few hm, ?_, ?_, hD.mono fun e w' h => ?_⟩
  ·unfold askB askOk
   simp only [decide_true, Bool.true_and]
   split
   ·rename_i hc
    obtain ⟨h1, h2, h3, h4, h5, h6⟩ := hc
    simp [h1, h2, h3, h4, h5, h6]
   ·rename_i hc
    simp only [Option.isSome_none, Bool.and_eq_false_iff, Bool.not_eq_false', decide_eq_true_eq, decide_eq_false_iff_not]
    by_cases h1 : m.code = 0
    ·by_cases h2 : 0 < m.answer.length + m.servers.length + m.more.length
     ·exact .inl (.inr h2)
     ·refine .inr ?_
      by_cases h5 : 1 ≤ m.ty
      ·refine .inr fun h6 => hc ⟨h1, List.eq_nil_of_length_eq_zero (by omega), List.eq_nil_of_length_eq_zero (by omega), List.eq_nil_of_length_eq_zero (by omega), h5, h6⟩
      ·exact .inl h5
    ·exact .inl (.inl h1)
  ·intro m' h
   unfold askOk at h
   simp only at h
   split at h
   ·rename_i hc
    simp only [Option.some.injEq] at h
    subst h
    exact ⟨rfl, rfl, hc.1, rfl, rfl, by rw [hc.2.1]; rfl, by rw [hc.2.2.1]; rfl, by rw [hc.2.2.2.1]; rfl⟩
   ·cases h
  ·rw [hm] at h
   obtain ⟨hb, va, vs, vm, b1, b2, he, h1, h2, h3, _⟩ := h
   obtain ⟨aa, ca, rfl⟩ := own_shapeN h1.1
   obtain ⟨as_, cs, rfl⟩ := own_shapeN h2.1
   obtain ⟨am, cm, rfl⟩ := own_shapeN h3.1
   exact ⟨hb, aa, as_, am, ca, cs, cm, he⟩
abbrev zMsgO : Obj := .cells #[.int .i64 0, .bool false, .int .i64 0, .string ⟨#[]⟩, .int .i64 0, .slice none 0 0, .slice none 0 0, .slice none 0 0] 27 (0, 0)
theorem ret_msgD {W : World} {S : Nat} {tmps : Array Value} {R : Ending → World → Prop} {id : Int} {rp : Bool} {code : Int} {nm : ByteArray} {ty : Int} {va vs vm : Value} {bv : Bool} (h : W.heap[S]? = some (.cells #[.int .i64 id, .bool rp, .int .i64 code, .string nm, .int .i64 ty, va, vs, vm] 27 (0, 0))) (t2 : tmps[2]? = some (.pointer (some ⟨S, 0, none⟩))) (t3 : tmps[3]? = some (.bool bv)) (hR : R (.returned (.tuple #[msgV id rp code nm ty va vs vm, .bool bv])) W.drew) :
  bodyPost Tryz.prog Tryz.f64 R .ret { tmps := tmps, defers := [] } W.drew := by
 obtain ⟨y0, y1, y2, y3, y4, y5, y6, y7⟩ := cells8 h
 exact bodyPost_ret (v := .tuple #[msgV id rp code nm ty va vs vm, .bool bv]) (by simp [results, Tryz.results64, go_sem, y0, y1, y2, y3, y4, y5, y6, y7, t2, t3]) rfl hR
theorem ret_msg {W : World} {S : Nat} {tmps : Array Value} {R : Ending → World → Prop} {id : Int} {rp : Bool} {code : Int} {nm : ByteArray} {ty : Int} {va vs vm : Value} {bv : Bool} (h : W.heap[S]? = some (.cells #[.int .i64 id, .bool rp, .int .i64 code, .string nm, .int .i64 ty, va, vs, vm] 27 (0, 0))) (t2 : tmps[2]? = some (.pointer (some ⟨S, 0, none⟩))) (t3 : tmps[3]? = some (.bool bv)) (hR : R (.returned (.tuple #[msgV id rp code nm ty va vs vm, .bool bv])) W) :
  bodyPost Tryz.prog Tryz.f64 R .ret { tmps := tmps, defers := [] } W := by
 obtain ⟨y0, y1, y2, y3, y4, y5, y6, y7⟩ := cells8 h
 exact bodyPost_ret (v := .tuple #[msgV id rp code nm ty va vs vm, .bool bv]) (by simp [results, Tryz.results64, go_sem, y0, y1, y2, y3, y4, y5, y6, y7, t2, t3]) rfl hR
set_option maxHeartbeats 4000000 in
theorem questionOf_any (s : ByteArray) (w : World) (hs : s.size ≤ 1048576) : ∃ (id : Int) (rp : Bool) (code : Int) (nm : ByteArray) (ty : Int) (na ns nn : Nat), (∀ m, askOk (msgS (tl s)) = some m → m.id = id ∧ m.reply = rp ∧ code = 0 ∧ m.name = nm ∧ m.ty = ty ∧ na = 0 ∧ ns = 0 ∧ nn = 0) ∧
  Calls Tryz.prog 64 #[.string s] w fun e w' => Below w.heap.size w w' ∧ ∃ (aa as_ am : Option Addr) (ca cs cm : Nat), e = .returned (.tuple #[msgV id rp code nm ty (.slice aa na ca) (.slice as_ ns cs) (.slice am nn cm), .bool (askOk (msgS (tl s))).isSome]) := by
 obtain ⟨er, id, rp, code, nm, ty, na, ns, nn, her2, hfew, hask, hall, hD⟩ := decode_parts s (w.alloc zMsgO) hs
 refine ⟨id, rp, code, nm, ty, na, ns, nn, hall, ?_⟩
 rw [← hask]
 have HD : Hid (Calls Tryz.prog 57 #[.string s] (w.alloc zMsgO) fun e w' => Below (w.alloc zMsgO).heap.size (w.alloc zMsgO) w' ∧ ∃ (aa as_ am : Option Addr) (ca cs cm : Nat), e = .returned (.tuple #[msgV id rp code nm ty (.slice aa na ca) (.slice as_ ns cs) (.slice am nn cm), .int .i64 er])) := hD
 clear hD hask hall
 go_enter Tryz.func64, Tryz.ntmps64
 go_upto_region 2 with (go_at_call 57; refine HD.out.mono ?_; rintro e w1 ⟨hb1, aa, as_, am, ca, cs, cm, rfl⟩)
 obtain ⟨W2, hW2⟩ : ∃ W2, w1.alloc (.cells #[.int .i64 id, .bool rp, .int .i64 code, .string nm, .int .i64 ty, .slice aa na ca, .slice as_ ns cs, .slice am nn cm] 27) = W2 := ⟨_, rfl⟩
 have hz1 := hb1.size
 simp at hz1
 have hb2 : Below w1.heap.size w1 W2 := by rw [← hW2]; exact (Below.refl _ _).alloc (Nat.le_refl _) _
 have e2 : W2.heap[w1.heap.size]? = some (.cells #[.int .i64 id, .bool rp, .int .i64 code, .string nm, .int .i64 ty, .slice aa na ca, .slice as_ ns cs, .slice am nn cm] 27 (0, 0)) := by rw [← hW2]; exact World.alloc_heap_new w1 _
 have e0 : W2.heap[w.heap.size]? = some zMsgO := (hb2.block _ (by omega)).trans ((hb1.block _ (by simp)).trans (World.alloc_heap_new w _))
 have hBw : Below w.heap.size w W2 := (((Below.refl w.heap.size w).alloc (Nat.le_refl _) _).trans (hb1.mono (by simp))).trans (hb2.mono (by omega))
 have hl2 : w1.heap.size < W2.heap.size := (Array.getElem?_eq_some_iff.1 e2).1
 obtain ⟨b0, b1', b2', b3, b4, b5, b6, b7⟩ := cells8 e2
 rw [hW2]
 clear hW2 HD
 have HEND : Hid (∀ w3, Below W2.heap.size W2 w3 → w3.heap[w.heap.size]? = some zMsgO ∧ Below w.heap.size w w3) := fun w3 h3 => ⟨(h3.block _ (by omega)).trans e0, hBw.trans (h3.mono (by omega))⟩
 have hS0 : Keeps (fun k => k = w.heap.size) W2 W2.drew := (Keeps.refl _ _).drew
 have HF0 : ∀ w', Keeps (fun k => k = w.heap.size) W2 w' → w'.heap[w1.heap.size]? = W2.heap[w1.heap.size]? := fun w' hw => hw.block _ hl2 (by omega)
 have HF : ∀ w', Keeps (fun k => k = w.heap.size) W2 w' → w'.cell? ⟨w1.heap.size, 0, none⟩ = some (.int .i64 id) ∧ w'.cell? ⟨w1.heap.size, 1, none⟩ = some (.bool rp) ∧ w'.cell? ⟨w1.heap.size, 2, none⟩ = some (.int .i64 code) ∧ w'.cell? ⟨w1.heap.size, 3, none⟩ = some (.string nm) ∧ w'.cell? ⟨w1.heap.size, 4, none⟩ = some (.int .i64 ty) ∧ w'.cell? ⟨w1.heap.size, 5, none⟩ = some (.slice aa na ca) ∧ w'.cell? ⟨w1.heap.size, 6, none⟩ = some (.slice as_ ns cs) ∧ w'.cell? ⟨w1.heap.size, 7, none⟩ = some (.slice am nn cm) := fun w' hw => cells8 ((HF0 w' hw).trans e2)
 have HZ : Hid (∀ w', Below W2.heap.size W2 w' → w'.heap[w.heap.size]? = some zMsgO) := fun w' hw => (hw.block _ (by omega)).trans e0
 have hne : w1.heap.size ≠ w.heap.size := by omega
 clear b0 b1' b2' b3 b4 b5 b6 b7 HEND
 rcases her2 with rfl | rfl
 ·clear hne
  by_cases hcode : code = 0
  ·subst hcode
   by_cases hrec : 0 < na + ns + nn
   ·have HR : Hid (Calls Tryz.prog 109 #[msgV id rp 0 nm ty (.slice aa na ca) (.slice as_ ns cs) (.slice am nn cm)] W2.drew fun e w' => e = .returned (.bool true) ∧ Below W2.drew.heap.size W2.drew w') := by
     have := hasRecords_any id rp 0 nm ty aa as_ am na ns nn ca cs cm W2.drew hfew
     rw [decide_eq_true hrec] at this
     exact this
    refine wp_region_held_drew (S := fun w' => Keeps (fun k => k = w.heap.size) W2 w') (by kernel_rfl) hS0 (fun hS => ?_)
    refine tkY (i := 0) (v := msgV id rp 0 nm ty (.slice aa na ca) (.slice as_ ns cs) (.slice am nn cm)) rfl (Or.inl ⟨by rfl, fun w' hw => by obtain ⟨g0, g1, g2, g3, g4, g5, g6, g7⟩ := HF w' hw; go_simp⟩) hS ?_
    refine tkS (i := 1) (v := .int .i64 0) rfl hS ?_
    refine tkS (i := 2) (v := .bool true) rfl hS ?_
    refine tkS (i := 3) (v := .bool true) rfl hS ?_
    refine tkY (i := 4) (v := .pointer (some ⟨w1.heap.size, 2, none⟩)) rfl (Or.inl ⟨by kernel_rfl, fun w' hw => by go_simp⟩) hS ?_
    refine tkY (i := 5) (v := .int .i64 0) rfl (Or.inl ⟨by kernel_rfl, fun w' hw => by obtain ⟨g0, g1, g2, g3, g4, g5, g6, g7⟩ := HF w' hw; go_simp⟩) hS ?_
    refine tkY (i := 6) (v := .bool true) rfl (Or.inl ⟨by kernel_rfl, fun w' hw => by go_simp⟩) hS ?_
    refine tkS (i := 7) (v := .bool true) rfl hS ?_
    refine tkS (i := 8) (v := .bool true) rfl hS ?_
    refine tkY (i := 9) (v := msgV id rp 0 nm ty (.slice aa na ca) (.slice as_ ns cs) (.slice am nn cm)) rfl (Or.inl ⟨by kernel_rfl, fun w' hw => by obtain ⟨g0, g1, g2, g3, g4, g5, g6, g7⟩ := HF w' hw; go_simp⟩) hS ?_
    refine wpAnyH_ready (rs := [10]) (by kernel_rfl) (by simp) ?_
    refine AllReadyH.cons rfl (fun K hK => ?_) AllReadyH.nil
    go_simp
    refine HR.out.mono ?_
    rintro e w5 ⟨rfl, hb5⟩
    refine hK.out _ _ (hS0.below hb5) fun hS => ?_
    refine tkY (i := 11) (v := .bool false) rfl (Or.inl ⟨by kernel_rfl, fun w' hw => by go_simp⟩) hS ?_
    refine tkS (i := 12) (v := .bool false) rfl hS ?_
    refine tkS (i := 13) (v := .bool false) rfl hS ?_
    refine tkY (i := 14) (v := undef) rfl (Or.inr ⟨by kernel_rfl, rfl⟩) hS ?_
    refine tkY (i := 15) (v := undef) rfl (Or.inr ⟨by kernel_rfl, rfl⟩) hS ?_
    refine tkY (i := 16) (v := undef) rfl (Or.inr ⟨by kernel_rfl, rfl⟩) hS ?_
    refine tkS (i := 17) (v := .bool false) rfl hS ?_
    refine wpAnyH_ready (rs := [18]) (by kernel_rfl) (by simp) ?_
    refine AllReadyH.cons rfl (fun K hK => ?_) AllReadyH.nil
    have hz := HZ.out w5 ((Below.refl _ W2).drew.trans hb5)
    have z0 := (cells8 hz).1
    have z1 := (cells8 hz).2.1
    have z2 := (cells8 hz).2.2.1
    have z3 := (cells8 hz).2.2.2.1
    have z4 := (cells8 hz).2.2.2.2.1
    have z5 := (cells8 hz).2.2.2.2.2.1
    have z6 := (cells8 hz).2.2.2.2.2.2.1
    have z7 := (cells8 hz).2.2.2.2.2.2.2
    have zf : ∀ k, (w5).frozen? ⟨w.heap.size, k, none⟩ = false := fun k => frozen_of_row _ _ k _ 27 hz
    go_simp
    refine hK.out _ _ ((((((((hS.set (.inl rfl) 0 _).set (.inl rfl) 1 _).set (.inl rfl) 2 _).set (.inl rfl) 3 _).set (.inl rfl) 4 _).set (.inl rfl) 5 _).set (.inl rfl) 6 _).set (.inl rfl) 7 _) fun hS => ?_
    refine wpAnyH_ready (rs := [19]) (by kernel_rfl) (by simp) ?_
    refine AllReadyH.cons rfl (fun K hK => ?_) AllReadyH.nil
    go_simp
    refine hK.out _ _ hS fun hS => ?_
    refine wpAnyH_done (by kernel_rfl) ?_ _
    go_wp2
    refine ret_msg (S := w.heap.size) (id := id) (rp := rp) (code := 0) (nm := nm) (ty := ty) (va := .slice aa na ca) (vs := .slice as_ ns cs) (vm := .slice am nn cm) (bv := false) ?hf rfl rfl ⟨((((((((hBw.trans (((Below.refl W2.heap.size W2).drew.trans hb5).mono (by omega))).set (Nat.le_refl _) 0 _).set (Nat.le_refl _) 1 _).set (Nat.le_refl _) 2 _).set (Nat.le_refl _) 3 _).set (Nat.le_refl _) 4 _).set (Nat.le_refl _) 5 _).set (Nat.le_refl _) 6 _).set (Nat.le_refl _) 7 _, aa, as_, am, ca, cs, cm, ?_⟩
    case hf => exact fill8_heap hz
    simp [askB, hrec]
   ·have HR : Hid (Calls Tryz.prog 109 #[msgV id rp 0 nm ty (.slice aa na ca) (.slice as_ ns cs) (.slice am nn cm)] W2.drew fun e w' => e = .returned (.bool false) ∧ Below W2.drew.heap.size W2.drew w') := by
     have := hasRecords_any id rp 0 nm ty aa as_ am na ns nn ca cs cm W2.drew hfew
     rw [decide_eq_false hrec] at this
     exact this
    refine wp_region_held_drew (S := fun w' => Keeps (fun k => k = w.heap.size) W2 w') (by kernel_rfl) hS0 (fun hS => ?_)
    refine tkY (i := 0) (v := msgV id rp 0 nm ty (.slice aa na ca) (.slice as_ ns cs) (.slice am nn cm)) rfl (Or.inl ⟨by rfl, fun w' hw => by obtain ⟨g0, g1, g2, g3, g4, g5, g6, g7⟩ := HF w' hw; go_simp⟩) hS ?_
    refine tkS (i := 1) (v := .int .i64 0) rfl hS ?_
    refine tkS (i := 2) (v := .bool true) rfl hS ?_
    refine tkS (i := 3) (v := .bool true) rfl hS ?_
    refine tkY (i := 4) (v := .pointer (some ⟨w1.heap.size, 2, none⟩)) rfl (Or.inl ⟨by kernel_rfl, fun w' hw => by go_simp⟩) hS ?_
    refine tkY (i := 5) (v := .int .i64 0) rfl (Or.inl ⟨by kernel_rfl, fun w' hw => by obtain ⟨g0, g1, g2, g3, g4, g5, g6, g7⟩ := HF w' hw; go_simp⟩) hS ?_
    refine tkY (i := 6) (v := .bool true) rfl (Or.inl ⟨by kernel_rfl, fun w' hw => by go_simp⟩) hS ?_
    refine tkS (i := 7) (v := .bool true) rfl hS ?_
    refine tkS (i := 8) (v := .bool true) rfl hS ?_
    refine tkY (i := 9) (v := msgV id rp 0 nm ty (.slice aa na ca) (.slice as_ ns cs) (.slice am nn cm)) rfl (Or.inl ⟨by kernel_rfl, fun w' hw => by obtain ⟨g0, g1, g2, g3, g4, g5, g6, g7⟩ := HF w' hw; go_simp⟩) hS ?_
    refine wpAnyH_ready (rs := [10]) (by kernel_rfl) (by simp) ?_
    refine AllReadyH.cons rfl (fun K hK => ?_) AllReadyH.nil
    go_simp
    refine HR.out.mono ?_
    rintro e w5 ⟨rfl, hb5⟩
    refine hK.out _ _ (hS0.below hb5) fun hS => ?_
    refine tkY (i := 11) (v := .bool true) rfl (Or.inl ⟨by kernel_rfl, fun w' hw => by go_simp⟩) hS ?_
    refine tkS (i := 12) (v := .bool true) rfl hS ?_
    refine tkS (i := 13) (v := .bool true) rfl hS ?_
    refine tkY (i := 14) (v := .pointer (some ⟨w1.heap.size, 4, none⟩)) rfl (Or.inl ⟨by kernel_rfl, fun w' hw => by go_simp⟩) hS ?_
    refine tkY (i := 15) (v := .int .i64 ty) rfl (Or.inl ⟨by kernel_rfl, fun w' hw => by obtain ⟨g0, g1, g2, g3, g4, g5, g6, g7⟩ := HF w' hw; go_simp⟩) hS ?_
    refine wpAnyH_ready (rs := [16]) (by kernel_rfl) (by simp) ?_
    refine AllReadyH.cons rfl (fun K hK => ?_) AllReadyH.nil
    go_simp
    refine (canBe_any ty _).mono ?_
    rintro e w6 ⟨rfl, h6⟩
    have h6s := h6.symm
    clear h6
    subst h6s
    refine hK.out _ _ hS fun hS => ?_
    refine tkS (i := 17) (v := .bool (decide (1 ≤ ty) && decide (ty ≤ 3))) rfl hS ?_
    refine wpAnyH_ready (rs := [18]) (by kernel_rfl) (by simp) ?_
    refine AllReadyH.cons rfl (fun K hK => ?_) AllReadyH.nil
    have hz := HZ.out w5 ((Below.refl _ W2).drew.trans hb5)
    have z0 := (cells8 hz).1
    have z1 := (cells8 hz).2.1
    have z2 := (cells8 hz).2.2.1
    have z3 := (cells8 hz).2.2.2.1
    have z4 := (cells8 hz).2.2.2.2.1
    have z5 := (cells8 hz).2.2.2.2.2.1
    have z6 := (cells8 hz).2.2.2.2.2.2.1
    have z7 := (cells8 hz).2.2.2.2.2.2.2
    have zf : ∀ k, (w5).frozen? ⟨w.heap.size, k, none⟩ = false := fun k => frozen_of_row _ _ k _ 27 hz
    go_simp
    refine hK.out _ _ ((((((((hS.set (.inl rfl) 0 _).set (.inl rfl) 1 _).set (.inl rfl) 2 _).set (.inl rfl) 3 _).set (.inl rfl) 4 _).set (.inl rfl) 5 _).set (.inl rfl) 6 _).set (.inl rfl) 7 _) fun hS => ?_
    refine wpAnyH_ready (rs := [19]) (by kernel_rfl) (by simp) ?_
    refine AllReadyH.cons rfl (fun K hK => ?_) AllReadyH.nil
    go_simp
    refine hK.out _ _ hS fun hS => ?_
    refine wpAnyH_done (by kernel_rfl) ?_ _
    go_wp2
    refine ret_msg (S := w.heap.size) (id := id) (rp := rp) (code := 0) (nm := nm) (ty := ty) (va := .slice aa na ca) (vs := .slice as_ ns cs) (vm := .slice am nn cm) (bv := (decide (1 ≤ ty) && decide (ty ≤ 3))) ?hf rfl rfl ⟨((((((((hBw.trans (((Below.refl W2.heap.size W2).drew.trans hb5).mono (by omega))).set (Nat.le_refl _) 0 _).set (Nat.le_refl _) 1 _).set (Nat.le_refl _) 2 _).set (Nat.le_refl _) 3 _).set (Nat.le_refl _) 4 _).set (Nat.le_refl _) 5 _).set (Nat.le_refl _) 6 _).set (Nat.le_refl _) 7 _, aa, as_, am, ca, cs, cm, ?_⟩
    case hf => exact fill8_heap hz
    simp [askB, hrec]
  ·have hz := HZ.out W2 (Below.refl _ W2)
   have z0 := (cells8 hz).1
   have z1 := (cells8 hz).2.1
   have z2 := (cells8 hz).2.2.1
   have z3 := (cells8 hz).2.2.2.1
   have z4 := (cells8 hz).2.2.2.2.1
   have z5 := (cells8 hz).2.2.2.2.2.1
   have z6 := (cells8 hz).2.2.2.2.2.2.1
   have z7 := (cells8 hz).2.2.2.2.2.2.2
   have zf : ∀ k, (W2).frozen? ⟨w.heap.size, k, none⟩ = false := fun k => frozen_of_row _ _ k _ 27 hz
   refine wp_region_held_drew (S := fun w' => Keeps (fun k => k = w.heap.size) W2 w') (by kernel_rfl) hS0 (fun hS => ?_)
   refine tkY (i := 0) (v := msgV id rp code nm ty (.slice aa na ca) (.slice as_ ns cs) (.slice am nn cm)) rfl (Or.inl ⟨by rfl, fun w' hw => by obtain ⟨g0, g1, g2, g3, g4, g5, g6, g7⟩ := HF w' hw; go_simp⟩) hS ?_
   refine tkS (i := 1) (v := .int .i64 0) rfl hS ?_
   refine tkS (i := 2) (v := .bool true) rfl hS ?_
   refine tkS (i := 3) (v := .bool true) rfl hS ?_
   refine tkY (i := 4) (v := .pointer (some ⟨w1.heap.size, 2, none⟩)) rfl (Or.inl ⟨by kernel_rfl, fun w' hw => by go_simp⟩) hS ?_
   refine tkY (i := 5) (v := .int .i64 code) rfl (Or.inl ⟨by kernel_rfl, fun w' hw => by obtain ⟨g0, g1, g2, g3, g4, g5, g6, g7⟩ := HF w' hw; go_simp⟩) hS ?_
   refine tkY (i := 6) (v := .bool false) rfl (Or.inl ⟨by kernel_rfl, fun w' hw => by go_simp⟩) hS ?_
   refine tkS (i := 7) (v := .bool false) rfl hS ?_
   refine tkS (i := 8) (v := .bool false) rfl hS ?_
   refine tkY (i := 9) (v := undef) rfl (Or.inr ⟨by kernel_rfl, rfl⟩) hS ?_
   refine tkY (i := 10) (v := undef) rfl (Or.inr ⟨by kernel_rfl, rfl⟩) hS ?_
   refine tkY (i := 11) (v := undef) rfl (Or.inr ⟨by kernel_rfl, rfl⟩) hS ?_
   refine tkS (i := 12) (v := .bool false) rfl hS ?_
   refine tkS (i := 13) (v := .bool false) rfl hS ?_
   refine tkY (i := 14) (v := undef) rfl (Or.inr ⟨by kernel_rfl, rfl⟩) hS ?_
   refine tkY (i := 15) (v := undef) rfl (Or.inr ⟨by kernel_rfl, rfl⟩) hS ?_
   refine tkY (i := 16) (v := undef) rfl (Or.inr ⟨by kernel_rfl, rfl⟩) hS ?_
   refine tkS (i := 17) (v := .bool false) rfl hS ?_
   refine wpAnyH_ready (rs := [18]) (by kernel_rfl) (by simp) ?_
   refine AllReadyH.cons rfl (fun K hK => ?_) AllReadyH.nil
   go_simp
   refine hK.out _ _ (((((((((Keeps.refl (fun k => k = w.heap.size) W2).set (.inl rfl) 0 _).set (.inl rfl) 1 _).set (.inl rfl) 2 _).set (.inl rfl) 3 _).set (.inl rfl) 4 _).set (.inl rfl) 5 _).set (.inl rfl) 6 _).set (.inl rfl) 7 _).drew fun hS => ?_
   refine wpAnyH_ready (rs := [19]) (by kernel_rfl) (by simp) ?_
   refine AllReadyH.cons rfl (fun K hK => ?_) AllReadyH.nil
   go_simp
   refine hK.out _ _ hS fun hS => ?_
   refine wpAnyH_done (by kernel_rfl) ?_ _
   go_wp2
   refine ret_msgD (S := w.heap.size) (id := id) (rp := rp) (code := code) (nm := nm) (ty := ty) (va := .slice aa na ca) (vs := .slice as_ ns cs) (vm := .slice am nn cm) (bv := false) ?hf rfl rfl ⟨(((((((((hBw).set (Nat.le_refl _) 0 _).set (Nat.le_refl _) 1 _).set (Nat.le_refl _) 2 _).set (Nat.le_refl _) 3 _).set (Nat.le_refl _) 4 _).set (Nat.le_refl _) 5 _).set (Nat.le_refl _) 6 _).set (Nat.le_refl _) 7 _).drew, aa, as_, am, ca, cs, cm, ?_⟩
   case hf => exact fill8_heap hz
   simp [askB, hcode]
 ·have hz := HZ.out W2 (Below.refl _ W2)
  have z0 := (cells8 hz).1
  have z1 := (cells8 hz).2.1
  have z2 := (cells8 hz).2.2.1
  have z3 := (cells8 hz).2.2.2.1
  have z4 := (cells8 hz).2.2.2.2.1
  have z5 := (cells8 hz).2.2.2.2.2.1
  have z6 := (cells8 hz).2.2.2.2.2.2.1
  have z7 := (cells8 hz).2.2.2.2.2.2.2
  have zf : ∀ k, (W2).frozen? ⟨w.heap.size, k, none⟩ = false := fun k => frozen_of_row _ _ k _ 27 hz
  refine wp_region_held_drew (S := fun w' => Keeps (fun k => k = w.heap.size) W2 w') (by kernel_rfl) hS0 (fun hS => ?_)
  refine tkY (i := 0) (v := msgV id rp code nm ty (.slice aa na ca) (.slice as_ ns cs) (.slice am nn cm)) rfl (Or.inl ⟨by rfl, fun w' hw => by obtain ⟨g0, g1, g2, g3, g4, g5, g6, g7⟩ := HF w' hw; go_simp⟩) hS ?_
  refine tkS (i := 1) (v := .int .i64 2) rfl hS ?_
  refine tkS (i := 2) (v := .bool false) rfl hS ?_
  refine tkS (i := 3) (v := .bool false) rfl hS ?_
  refine tkY (i := 4) (v := undef) rfl (Or.inr ⟨by kernel_rfl, rfl⟩) hS ?_
  refine tkY (i := 5) (v := undef) rfl (Or.inr ⟨by kernel_rfl, rfl⟩) hS ?_
  refine tkY (i := 6) (v := undef) rfl (Or.inr ⟨by kernel_rfl, rfl⟩) hS ?_
  refine tkS (i := 7) (v := .bool false) rfl hS ?_
  refine tkS (i := 8) (v := .bool false) rfl hS ?_
  refine tkY (i := 9) (v := undef) rfl (Or.inr ⟨by kernel_rfl, rfl⟩) hS ?_
  refine tkY (i := 10) (v := undef) rfl (Or.inr ⟨by kernel_rfl, rfl⟩) hS ?_
  refine tkY (i := 11) (v := undef) rfl (Or.inr ⟨by kernel_rfl, rfl⟩) hS ?_
  refine tkS (i := 12) (v := .bool false) rfl hS ?_
  refine tkS (i := 13) (v := .bool false) rfl hS ?_
  refine tkY (i := 14) (v := undef) rfl (Or.inr ⟨by kernel_rfl, rfl⟩) hS ?_
  refine tkY (i := 15) (v := undef) rfl (Or.inr ⟨by kernel_rfl, rfl⟩) hS ?_
  refine tkY (i := 16) (v := undef) rfl (Or.inr ⟨by kernel_rfl, rfl⟩) hS ?_
  refine tkS (i := 17) (v := .bool false) rfl hS ?_
  refine wpAnyH_ready (rs := [18]) (by kernel_rfl) (by simp) ?_
  refine AllReadyH.cons rfl (fun K hK => ?_) AllReadyH.nil
  go_simp
  refine hK.out _ _ (((((((((Keeps.refl (fun k => k = w.heap.size) W2).set (.inl rfl) 0 _).set (.inl rfl) 1 _).set (.inl rfl) 2 _).set (.inl rfl) 3 _).set (.inl rfl) 4 _).set (.inl rfl) 5 _).set (.inl rfl) 6 _).set (.inl rfl) 7 _).drew fun hS => ?_
  refine wpAnyH_ready (rs := [19]) (by kernel_rfl) (by simp) ?_
  refine AllReadyH.cons rfl (fun K hK => ?_) AllReadyH.nil
  go_simp
  refine hK.out _ _ hS fun hS => ?_
  refine wpAnyH_done (by kernel_rfl) ?_ _
  go_wp2
  refine ret_msgD (S := w.heap.size) (id := id) (rp := rp) (code := code) (nm := nm) (ty := ty) (va := .slice aa na ca) (vs := .slice as_ ns cs) (vm := .slice am nn cm) (bv := false) ?hf rfl rfl ⟨(((((((((hBw).set (Nat.le_refl _) 0 _).set (Nat.le_refl _) 1 _).set (Nat.le_refl _) 2 _).set (Nat.le_refl _) 3 _).set (Nat.le_refl _) 4 _).set (Nat.le_refl _) 5 _).set (Nat.le_refl _) 6 _).set (Nat.le_refl _) 7 _).drew, aa, as_, am, ca, cs, cm, ?_⟩
  case hf => exact fill8_heap hz
  simp [askB]
end Go.Proofs.YtefdokkadckbbaaGreatDoor
