/- decoded; looks, at a book whose lists read as their owner wrote them. -/
import Derived.Test.YtefdokkadckbbaaGreatDoorJ1
import Derived.Test.YtefdokkadckbbaaGreatDoorI8
namespace Go.Proofs.YtefdokkadckbbaaGreatDoor
open Go.RowKit
set_option maxRecDepth 100000

theorem recsS_len {t : List UInt8} : ∀ (k n : Nat) {l : List Rec} {m : Nat}, recsS t k n = some (l, m) → l.length = k
  | 0, n, l, m, h => by simp only [recsS, Option.some.injEq, Prod.mk.injEq] at h; rw [← h.1]; rfl
  | k + 1, n, l, m, h => by
    simp only [recsS] at h
    cases h0 : recS t n with
    | none => rw [h0] at h; cases h
    | some r =>
      rw [h0, Option.bind_some] at h
      cases h1 : recsS t k r.2 with
      | none => rw [h1] at h; cases h
      | some x =>
        rw [h1] at h
        simp only [Option.map_some, Option.some.injEq, Prod.mk.injEq] at h
        rw [← h.1, List.length_cons, recsS_len k r.2 h1]
theorem numS_le {t : List UInt8} {lo hi : Int} {n : Nat} {x : Int × Nat} (h : numS t lo hi n = some x) : x.1 ≤ hi := by
  unfold numS at h
  cases h0 : byteS t n with
  | none => rw [h0] at h; cases h
  | some y =>
    rw [h0, Option.bind_some] at h
    split at h
    · rename_i hc; simp only [Option.some.injEq] at h; subst h; exact hc.2
    · cases h
theorem msgS_lens {t : List UInt8} {m : Msg} (h : msgS t = some m) : m.answer.length ≤ 10 ∧ m.servers.length ≤ 10 ∧ m.more.length ≤ 10 := by
  unfold msgS at h
  split at h
  case isFalse => cases h
  simp only [Option.bind_eq_some_iff] at h
  obtain ⟨id, _, rep, _, code, _, nm, _, ty, _, ka, ha, kb, hb, kc, hc, la, hla, lb, hlb, lc, hlc, h⟩ := h
  split at h
  case isFalse => cases h
  simp only [Option.some.injEq] at h
  subst h
  have h1 := numS_le ha
  have h2 := numS_le hb
  have h3 := numS_le hc
  refine ⟨?_, ?_, ?_⟩
  · show la.1.length ≤ 10; rw [recsS_len _ _ hla]; omega
  · show lb.1.length ≤ 10; rw [recsS_len _ _ hlb]; omega
  · show lc.1.length ≤ 10; rw [recsS_len _ _ hlc]; omega

/-- The message that comes out, and the error's number. -/
def dM (o : Option Msg) : Msg := o.getD ⟨0, false, 0, ⟨#[]⟩, 0, [], [], []⟩
def dE (o : Option Msg) : Int := if o.isSome then 0 else 2
theorem lst_nil (lo hi : Nat) (W : World) : Lst lo hi W (.slice none 0 0) [] := ⟨World.ownsRow_nil W lo 71 5, fun k h => by simp [Value.ownBlock] at h⟩
/-- What a Decode does, whatever the message. -/
def SRes (w : World) (m : Msg) (er : Int) (e : Ending) (w' : World) : Prop := Below w.heap.size w w' ∧ ∃ va vs vm b1 b2, e = .returned (.tuple #[.agg #[.int .i64 m.id, .bool m.reply, .int .i64 m.code, .string m.name, .int .i64 m.ty, va, vs, vm], .int .i64 er]) ∧
    Lst w.heap.size b1 w' va m.answer ∧ Lst b1 b2 w' vs m.servers ∧ Lst b2 w'.heap.size w' vm m.more ∧ w.heap.size ≤ b1 ∧ b1 ≤ b2 ∧ b2 ≤ w'.heap.size
theorem DRes.same {w w' : World} {o : Option Msg} {e : Ending} (h : DRes w o e w') : SRes w (dM o) (dE o) e w' := by
  cases o with
  | some m => exact h
  | none => exact ⟨h.1, .slice none 0 0, .slice none 0 0, .slice none 0 0, w'.heap.size, w'.heap.size, h.2, lst_nil _ _ _, lst_nil _ _ _, lst_nil _ _ _, h.1.size, Nat.le_refl _, Nat.le_refl _⟩
theorem dM_lens (t : List UInt8) : (dM (msgS t)).answer.length ≤ 10 ∧ (dM (msgS t)).servers.length ≤ 10 ∧ (dM (msgS t)).more.length ≤ 10 := by
  cases h : msgS t with
  | none => exact ⟨Nat.zero_le _, Nat.zero_le _, Nat.zero_le _⟩
  | some m => exact msgS_lens h

theorem Lst.recs {lo hi : Nat} {W : World} {v : Value} {rs : List Rec} (h : Lst lo hi W v rs) : RecSl W v rs := by
  rcases h.1.2 with ⟨h1, h2⟩ | ⟨g, cap, cur, hv, _, hg, hnc, _, _, ht⟩
  · exact ⟨none, 0, by rw [h1, h2], .inl (List.length_eq_zero_iff.1 h2)⟩
  · refine ⟨_, cap, hv, .inr ⟨g, 0, rfl, (Array.getElem?_eq_some_iff.1 hg).1, hnc, recs_of_cells rs 0 fun i u hi => ?_⟩⟩
    have := h.1.cells (g := g) (by rw [hv]; rfl) i u hi
    rw [add_plain] at this
    exact this
theorem Lst.okept {lo hi : Nat} {W W' : World} {l v : Value} {rs : List Rec} (h : Lst lo hi W v rs) (hk : OKept l W W') (hne : ∀ k, v.ownBlock = some k → l.ownBlock ≠ some k) : Lst lo hi W' v rs := by
  refine ⟨⟨h.1.1, ?_⟩, h.2⟩
  rcases h.1.2 with hn | ⟨g, cap, cur, rfl, hb, hgg, rest⟩
  · exact .inl hn
  · exact .inr ⟨g, cap, cur, rfl, hb, (hk g cur 71 (by decide) (by decide) (by decide) hgg (hne g rfl)).trans hgg, rest⟩
theorem Lst.apart {lo mid hi lo2 : Nat} {W W' : World} {u v : Value} {rs rs' : List Rec} (h : Lst lo mid W u rs) (h' : Lst lo2 hi W' v rs') (hm : mid ≤ lo2) : ∀ k, v.ownBlock = some k → u.ownBlock ≠ some k := fun k hk hu => by
  have h1 := h.2 k hu
  have h2 := (h'.1.lt k hk).1
  omega

theorem MarkSl.lt {W : World} {v : Value} {n : Nat} {x : Int} (h : MarkSl W v n x) : ∀ k, v.ownBlock = some k → k < W.heap.size := fun k hk => by
  rcases h with ⟨rfl, _⟩ | ⟨g, cap, cur, rfl, hg, _⟩
  · simp [Value.ownBlock] at hk
  · simp [Value.ownBlock] at hk; subst hk; exact (Array.getElem?_eq_some_iff.1 hg).1
theorem Bk.below {w w' : World} {B lo hi : Nat} {rs rm : Value} {es : List Ent} {nx : Nat} (h : Bk w B lo hi rs rm es nx) (hb : Below w.heap.size w w') : Bk w' B lo hi rs rm es nx := by
  refine ⟨(hb.block B (Array.getElem?_eq_some_iff.1 h.box).1).trans h.box, h.rs.below hb, h.rm.below hb, fun e he => ?_⟩
  obtain ⟨h1, h2, h3⟩ := h.ent e he
  exact ⟨h1.kept fun k cur _ hk => hb.block k (Array.getElem?_eq_some_iff.1 hk).1, h2, h3⟩
theorem Bk.wide {w : World} {B lo hi lo' hi' : Nat} {rs rm : Value} {es : List Ent} {nx : Nat} (h : Bk w B lo hi rs rm es nx) (hl : w.heap.size ≤ lo') : Bk w B lo' hi' rs rm es nx := by
  refine ⟨h.box, h.rs, h.rm, fun e he => ?_⟩
  obtain ⟨h1, h2, _⟩ := h.ent e he
  exact ⟨h1, h2, fun k hk => .inl (Nat.lt_of_lt_of_le (h1.lt k hk) hl)⟩
theorem Bk.lt {w : World} {B lo hi : Nat} {rs rm : Value} {es : List Ent} {nx : Nat} (h : Bk w B lo hi rs rm es nx) : B < w.heap.size := (Array.getElem?_eq_some_iff.1 h.box).1

set_option maxHeartbeats 4000000 in
theorem decoded_any (s : ByteArray) (w : World) (B : Nat) (rs rm : Value) (es : List Ent) (nx : Nat) (hsz : s.size ≤ 1048576) (hbk : Bk w B w.heap.size w.heap.size rs rm es nx) (hes : es.length ≤ 12582912) (hnx : nx ≤ 12582912) :
    Calls Tryz.prog 76 #[.pointer (some ⟨B, 0, none⟩), .string s] w fun e w' => e = .returned (.bool true) ∧ ∃ rs' rm' es', Bk w' B w'.heap.size w'.heap.size rs' rm' (es ++ es') (nx + 3) ∧ es'.length = 12 ∧ Below B w w' := by
  obtain ⟨m, er, D1, D2, l1, l2, l3⟩ : ∃ m er, (∀ w, Calls Tryz.prog 26 #[.string s] w (SRes w m er)) ∧ (∀ w, Calls Tryz.prog 126 #[.string s] w (SRes w m er)) ∧ m.answer.length ≤ 10 ∧ m.servers.length ≤ 10 ∧ m.more.length ≤ 10 :=
    ⟨dM (msgS (tl s)), dE (msgS (tl s)), fun w => (sDecode_any s w hsz).mono fun e w' h => h.same, fun w => (Decode_ref s w).mono fun e w' h => h.same, dM_lens (tl s)⟩
  have D1 : Hid (∀ w, Calls Tryz.prog 26 #[.string s] w (SRes w m er)) := D1
  have D2 : Hid (∀ w, Calls Tryz.prog 126 #[.string s] w (SRes w m er)) := D2
  go_enter Tryz.func76, Tryz.ntmps76
  go_wp2_with fail
  refine (D1.out _).mono ?_
  rintro e w1 ⟨hb1, va, vs, vm, b1, b2, rfl, ha, hs, hv, j1, j2, j3⟩
  obtain ⟨aa, ca, rfl⟩ := own_shape ha.1
  obtain ⟨as_, cs, rfl⟩ := own_shape hs.1
  obtain ⟨am, cm, rfl⟩ := own_shape hv.1
  go_wp2_with fail
  refine (D2.out _).mono ?_
  rintro e w2 ⟨hb2, va', vs', vm', b1', b2', rfl, ha', hs', hv', j1', j2', j3'⟩
  obtain ⟨aa', ca', rfl⟩ := own_shape ha'.1
  obtain ⟨as', cs', rfl⟩ := own_shape hs'.1
  obtain ⟨am', cm', rfl⟩ := own_shape hv'.1
  have hbox1 := heap_below (Go.heap_alloc_new w1 _) hb2
  have hq := fun X => fill8_cells (heap_alloc_old hbox1 X)
  have p0 := fun X => (hq X).1
  have p1 := fun X => (hq X).2.1
  have p2 := fun X => (hq X).2.2.1
  have p3 := fun X => (hq X).2.2.2.1
  have p4 := fun X => (hq X).2.2.2.2.1
  have p5 := fun X => (hq X).2.2.2.2.2.1
  have p6 := fun X => (hq X).2.2.2.2.2.2.1
  have p7 := fun X => (hq X).2.2.2.2.2.2.2
  clear hq
  go_wp2_with fail
  have K1 : Below w1.heap.size w1 (w1.alloc (Obj.cells #[.int .i64 m.id, .bool m.reply, .int .i64 m.code, .string m.name, .int .i64 m.ty, .slice aa m.answer.length ca, .slice as_ m.servers.length cs, .slice am m.more.length cm] 27)) := (Below.refl _ _).alloc (Nat.le_refl _) _
  have K2 : Below w1.heap.size w1 w2 := K1.trans (hb2.mono K1.size)
  have K3 : Below w2.heap.size w2 (w2.alloc (Obj.cells #[.int .i64 m.id, .bool m.reply, .int .i64 m.code, .string m.name, .int .i64 m.ty, .slice aa' m.answer.length ca', .slice as' m.servers.length cs', .slice am' m.more.length cm'] 27)) := (Below.refl _ _).alloc (Nat.le_refl _) _
  have K4 : Below w1.heap.size w1 (w2.alloc (Obj.cells #[.int .i64 m.id, .bool m.reply, .int .i64 m.code, .string m.name, .int .i64 m.ty, .slice aa' m.answer.length ca', .slice as' m.servers.length cs', .slice am' m.more.length cm'] 27)) := K2.trans (K3.mono K2.size)
  have HB : Below w.heap.size w (w2.alloc (Obj.cells #[.int .i64 m.id, .bool m.reply, .int .i64 m.code, .string m.name, .int .i64 m.ty, .slice aa' m.answer.length ca', .slice as' m.servers.length cs', .slice am' m.more.length cm'] 27)) := hb1.trans (K4.mono hb1.size)
  have A := ha.below K4
  have S := hs.below K4
  have V := hv.below K4
  have A' := ha'.below K3
  have S' := hs'.below K3
  have V' := hv'.below K3
  have q1 := heap_alloc_old hbox1 (Obj.cells #[.int .i64 m.id, .bool m.reply, .int .i64 m.code, .string m.name, .int .i64 m.ty, .slice aa' m.answer.length ca', .slice as' m.servers.length cs', .slice am' m.more.length cm'] 27)
  have q2 := Go.heap_alloc_new w2 (Obj.cells #[.int .i64 m.id, .bool m.reply, .int .i64 m.code, .string m.name, .int .i64 m.ty, .slice aa' m.answer.length ca', .slice as' m.servers.length cs', .slice am' m.more.length cm'] 27)
  have BK : Bk (w2.alloc (Obj.cells #[.int .i64 m.id, .bool m.reply, .int .i64 m.code, .string m.name, .int .i64 m.ty, .slice aa' m.answer.length ca', .slice as' m.servers.length cs', .slice am' m.more.length cm'] 27)) B w.heap.size w1.heap.size rs rm es nx := (hbk.wide (Nat.le_refl _)).below HB
  have hn3 : w1.heap.size ≤ (w2.alloc (Obj.cells #[.int .i64 m.id, .bool m.reply, .int .i64 m.code, .string m.name, .int .i64 m.ty, .slice aa' m.answer.length ca', .slice as' m.servers.length cs', .slice am' m.more.length cm'] 27)).heap.size := K4.size
  clear K1 K2 K3 K4 p0 p1 p2 p3 p4 p5 p6 p7 hbox1 ha hs hv ha' hs' hv' hb2
  generalize w2.alloc (Obj.cells #[.int .i64 m.id, .bool m.reply, .int .i64 m.code, .string m.name, .int .i64 m.ty, .slice aa' m.answer.length ca', .slice as' m.servers.length cs', .slice am' m.more.length cm'] 27) = W3 at HB A S V A' S' V' q1 q2 BK hn3 ⊢
  obtain ⟨p0, p1, p2, p3, p4, p5, p6, p7⟩ := fill8_cells q1
  obtain ⟨r0, r1, r2, r3, r4, r5, r6, r7⟩ := fill8_cells q2
  refine (same_any _ _ m.answer _ (by omega) A.recs A'.recs).mono ?_
  rintro e w' ⟨rfl, n1, rfl⟩
  go_wp2_with fail
  refine (same_any _ _ m.servers (W3.drewN n1) (by omega) S.recs S'.recs).mono ?_
  rintro e w' ⟨rfl, n2, rfl⟩
  go_wp2_with fail
  refine (same_any _ _ m.more (W3.drewN (n1 + n2)) (by omega) V.recs V'.recs).mono ?_
  rintro e w' ⟨rfl, n3, rfl⟩
  go_wp2_with fail
  have HB4 : Below w.heap.size w (W3.drewN (n1 + n2 + n3)) := below_drewN HB _
  have A4 : Lst w.heap.size b1 (W3.drewN (n1 + n2 + n3)) (.slice aa m.answer.length ca) m.answer := A
  have S4 : Lst b1 b2 (W3.drewN (n1 + n2 + n3)) (.slice as_ m.servers.length cs) m.servers := S
  have V4 : Lst b2 w1.heap.size (W3.drewN (n1 + n2 + n3)) (.slice am m.more.length cm) m.more := V
  have q4 : (W3.drewN (n1 + n2 + n3)).heap[w1.heap.size]? = _ := q1
  have BK4 : Bk (W3.drewN (n1 + n2 + n3)) B w.heap.size w1.heap.size rs rm es nx := BK.below (below_drewN (Below.refl _ _) _)
  have hn4 : w1.heap.size ≤ (W3.drewN (n1 + n2 + n3)).heap.size := hn3
  clear HB A S V A' S' V' q1 q2 BK hn3 p0 p1 p2 p3 p4 p5 p6 p7 r0 r1 r2 r3 r4 r5 r6 r7
  generalize W3.drewN (n1 + n2 + n3) = W4 at HB4 A4 S4 V4 q4 BK4 hn4 ⊢
  have hltB := hbk.lt
  have hsw := hb1.size
  have c1 : W4.cell? ⟨w1.heap.size, 5, none⟩ = some (.slice aa m.answer.length ca) := (fill8_cells q4).2.2.2.2.2.1
  have BKd1 : Bk W4.drew B w.heap.size w1.heap.size _ _ _ _ := BK4.below (Below.refl _ _).drew
  go_region_held3 (fun w' => w'.cell? ⟨w1.heap.size, 5, none⟩ = some (.slice aa m.answer.length ca)) (first | assumption | go_keep)
    (first
      | (go_at_call 127; refine (own_any W4.drew B w.heap.size b1 w1.heap.size _ _ _ _ _ m.answer BKd1 A4.1 A4.2 (by omega) (by omega) (by exact hn4) (by omega) (by omega) (by first | omega | (simp only [List.length_append]; omega)) (by omega)).mono ?_; rintro e W5 ⟨rfl, vr1, vm1, es1, BK5, n1e, hB1, hO1⟩; have q5 := (hO1 _ _ 27 (by decide) (by decide) (by decide) q4 (fun h => by have := A4.2 _ h; omega)).trans q4; have k1 := (fill8_cells q5).2.2.2.2.2.1))
  have hn5 : w1.heap.size ≤ W5.heap.size := Nat.le_trans hn4 hB1.size
  have S5 := S4.okept hO1 (A4.apart S4 (Nat.le_refl _))
  have V5 := V4.okept hO1 (A4.apart V4 j2)
  go_wp2_with fail
  have c2 : W5.cell? ⟨w1.heap.size, 6, none⟩ = some (.slice as_ m.servers.length cs) := (fill8_cells q5).2.2.2.2.2.2.1
  have BKd2 : Bk W5.drew B b1 w1.heap.size _ _ _ _ := BK5.below (Below.refl _ _).drew
  go_region_held3 (fun w' => w'.cell? ⟨w1.heap.size, 6, none⟩ = some (.slice as_ m.servers.length cs)) (first | assumption | go_keep)
    (first
      | (go_at_call 127; refine (own_any W5.drew B b1 b2 w1.heap.size _ _ _ _ _ m.servers BKd2 S5.1 S5.2 (by omega) (by omega) (by exact hn5) (by omega) (by omega) (by first | omega | (simp only [List.length_append]; omega)) (by omega)).mono ?_; rintro e W6 ⟨rfl, vr2, vm2, es2, BK6, n2e, hB2, hO2⟩; have q6 := (hO2 _ _ 27 (by decide) (by decide) (by decide) q5 (fun h => by have := S5.2 _ h; omega)).trans q5; have k2 := (fill8_cells q6).2.2.2.2.2.2.1))
  have hn6 : w1.heap.size ≤ W6.heap.size := Nat.le_trans hn5 hB2.size
  have V6 := V5.okept hO2 (S5.apart V5 (Nat.le_refl _))
  go_wp2_with fail
  have c3 : W6.cell? ⟨w1.heap.size, 7, none⟩ = some (.slice am m.more.length cm) := (fill8_cells q6).2.2.2.2.2.2.2
  have BKd3 : Bk W6.drew B b2 w1.heap.size _ _ _ _ := BK6.below (Below.refl _ _).drew
  go_region_held3 (fun w' => w'.cell? ⟨w1.heap.size, 7, none⟩ = some (.slice am m.more.length cm)) (first | assumption | go_keep)
    (first
      | (go_at_call 127; refine (own_any W6.drew B b2 w1.heap.size w1.heap.size _ _ _ _ _ m.more BKd3 V6.1 V6.2 (by omega) (by omega) (by exact hn6) (by omega) (by omega) (by first | omega | (simp only [List.length_append]; omega)) (by omega)).mono ?_; rintro e W7 ⟨rfl, vr3, vm3, es3, BK7, n3e, hB3, hO3⟩; have q7 := (hO3 _ _ 27 (by decide) (by decide) (by decide) q6 (fun h => by have := V6.2 _ h; omega)).trans q6; have k3 := (fill8_cells q7).2.2.2.2.2.2.2))
  have hn7 : w1.heap.size ≤ W7.heap.size := Nat.le_trans hn6 hB3.size
  have HE : Hid (∃ rs' rm' es', Bk W7 B W7.heap.size W7.heap.size rs' rm' (es ++ es') (nx + 3) ∧ es'.length = 12 ∧ Below B w W7) := by
    refine ⟨vr3, vm3, es1 ++ es2 ++ es3, ?_, by simp only [List.length_append]; omega, ?_⟩
    · have := BK7.wide (lo' := W7.heap.size) (hi' := W7.heap.size) (Nat.le_refl _)
      rw [List.append_assoc, List.append_assoc, ← List.append_assoc es1 es2 es3] at this
      exact this
    · exact (((HB4.mono (Nat.le_of_lt hltB)).drew.trans hB1).drew.trans hB2).drew.trans hB3
  go_wp2_with fail
  refine (num_any er _).mono ?_
  rintro e w' ⟨rfl, rfl⟩
  go_wp2_with fail
  refine (num_any er _).mono ?_
  rintro e w' ⟨rfl, rfl⟩
  go_wp2
  go_ret
  exact ⟨rfl, HE.out⟩

theorem row_at {W : World} {b e n : Nat} {v : Value} {xs : List Value} (h : W.ownsRow b e 1 v n xs) : ∃ a c, v = .slice a n c ∧ ∀ k u, xs[k]? = some u → ∃ g, a = some ⟨g, 0, none⟩ ∧ W.cell? ⟨g, k, none⟩ = some u := by
  rcases h.2 with ⟨h1, h2⟩ | ⟨g, cap, cur, h1, _⟩
  · refine ⟨none, 0, by rw [h1, h2], fun k u hk => ?_⟩
    have hl := h.1
    rw [h2] at hl
    have := (List.getElem?_eq_some_iff.1 hk).1
    omega
  · refine ⟨_, _, h1, fun k u hk => ⟨g, rfl, ?_⟩⟩
    have := h.cells (g := g) (by rw [h1]; rfl) k u hk
    rw [add_plain, Nat.zero_add] at this
    exact this
theorem mark_at {W : World} {v : Value} {n : Nat} {x : Int} (h : MarkSl W v n x) : ∃ a c, v = .slice a n c ∧ ∀ j, j < n → ∃ g, a = some ⟨g, 0, none⟩ ∧ RecAt W g (j * 5) (ownM x) := by
  rcases h with ⟨h1, h2⟩ | ⟨g, cap, cur, h1, hg, ht⟩
  · exact ⟨none, 0, by rw [h1, h2], fun j hj => by omega⟩
  · refine ⟨_, _, h1, fun j hj => ⟨g, rfl, ?_⟩⟩
    have := recs_of_cells (w := W) (g := g) (List.replicate n (ownM x)) 0 (fun i u hi => by
      rw [Nat.zero_add, cell_blk hg]
      have hu : (marks x n)[i]? = some u := hi
      rw [← ht, List.getElem?_take] at hu
      split at hu
      · simpa using hu
      · cases hu) j (ownM x) (by rw [List.getElem?_replicate, if_pos hj])
    rw [Nat.zero_add] at this
    exact this

set_option maxHeartbeats 4000000 in
theorem looks_any (W : World) (B lo hi : Nat) (rs rm : Value) (es : List Ent) (nx : Nat) (h : Bk W B lo hi rs rm es nx) (hes : es.length ≤ 16777216) :
    Calls Tryz.prog 41 #[.pointer (some ⟨B, 1, none⟩)] W fun e w' => e = .returned (.bool true) ∧ ∃ n, w' = W.drewN n := by
  have d1 : W.cell? ⟨B, 1, none⟩ = some rs := by rw [cell_blk h.box]; rfl
  have d2 : W.cell? ⟨B, 2, none⟩ = some rm := by rw [cell_blk h.box]; rfl
  have d3 : W.cell? ⟨B, 3, none⟩ = some (.slice none 0 0) := by rw [cell_blk h.box]; rfl
  have d5 : W.cell? ⟨B, 5, none⟩ = some (.slice none 0 0) := by rw [cell_blk h.box]; rfl
  have d7 : W.cell? ⟨B, 7, none⟩ = some (.slice none 0 0) := by rw [cell_blk h.box]; rfl
  obtain ⟨ars, crs, rfl, hrs⟩ := row_at h.rs
  obtain ⟨arm, crm, rfl, hrm⟩ := row_at h.rm
  have HS : Hid (∀ k u, (es.map (·.v))[k]? = some u → ∃ g, ars = some ⟨g, 0, none⟩ ∧ W.cell? ⟨g, k, none⟩ = some u) := hrs
  have HR : Hid (∀ k u, (es.map fun e => Value.int .i64 e.x)[k]? = some u → ∃ g, arm = some ⟨g, 0, none⟩ ∧ W.cell? ⟨g, k, none⟩ = some u) := hrm
  have HE : Hid (∀ e ∈ es, MarkSl W e.v e.n e.x ∧ e.n ≤ 64) := fun e he => ⟨(h.ent e he).1, (h.ent e he).2.1⟩
  clear hrs hrm h
  go_enter Tryz.func41, Tryz.ntmps41
  go_wp2
  go_loopw [3] (fun i wr => ∃ k n : Nat, k ≤ es.length ∧ i = .int .i64 k ∧ wr = W.drewN n) (fun i _ => es.length - (intOf i).toNat)
  case atStart => exact ⟨0, 0, Nat.zero_le _, rfl, rfl⟩
  case round =>
    obtain ⟨k, n, hk, rfl, rfl⟩ := hrel
    by_cases hlt : k < es.length
    · obtain ⟨e, he⟩ : ∃ e, es[k]? = some e := ⟨es[k], List.getElem?_eq_getElem hlt⟩
      obtain ⟨g, rfl, c1⟩ := HS.out k e.v (by rw [List.getElem?_map, he]; rfl)
      obtain ⟨g', rfl, c2⟩ := HR.out k (.int .i64 e.x) (by rw [List.getElem?_map, he]; rfl)
      obtain ⟨hmk, hn64⟩ := HE.out e (List.mem_of_getElem? he)
      obtain ⟨a, c, hv, hat⟩ := mark_at hmk
      rw [hv] at c1
      have HA : Hid (∀ j, j < e.n → ∃ g, a = some ⟨g, 0, none⟩ ∧ RecAt W g (j * 5) (ownM e.x)) := hat
      clear hat hmk hv he
      go_wp2
      go_loopw [4] (fun i wr => ∃ j n : Nat, j ≤ e.n ∧ i = .int .i64 j ∧ wr = W.drewN n) (fun i _ => e.n - (intOf i).toNat)
      case atStart => exact ⟨0, n, Nat.zero_le _, rfl, rfl⟩
      case round =>
        obtain ⟨j, n, hj, rfl, rfl⟩ := hrel
        by_cases hlj : j < e.n
        · obtain ⟨ge, rfl, m0, m1, m2, m3, m4⟩ := HA.out j hlj
          simp only [ownM] at m0 m1 m2 m3 m4
          go_wp2
          go_quiet (fail)
          go_wp2
          go_roundw
          case rel => exact ⟨j + 1, n + nq, hlj, by go_num, rfl⟩
          case measure => simp [intOf]; omega
        · go_wp2
          go_roundw
          case rel => exact ⟨k + 1, n, hlt, by go_num, rfl⟩
          case measure => simp [intOf]; omega
    · go_wp2
      refine wp_loop_rounds 1 ?_
      rw [rounds_succ]
      go_wp2
      refine wp_loop_rounds 1 ?_
      rw [rounds_succ]
      go_wp2
      refine wp_loop_rounds 1 ?_
      rw [rounds_succ]
      go_wp2
      go_ret
      exact ⟨rfl, n, rfl⟩
end Go.Proofs.YtefdokkadckbbaaGreatDoor
