/- Qg Qh Qi Ql -/
import Derived.Test.YtefdokkadckbbaaGreatDoorZ39
import Derived.Test.YtefdokkadckbbaaGreatDoorZ25
section
namespace Go.Proofs.YtefdokkadckbbaaGreatDoor
open Go.RowKit
set_option maxRecDepth 100000
theorem rsaid_q (y : Nat) (nm : ByteArray) (k r : Int) (w : World) (h : w.cell? ⟨y, 5, none⟩ = some (.slice none 0 0)) :
  Calls Tryz.prog 163 #[.pointer (some ⟨y, 0, none⟩), .string nm, .int .i64 k, .int .i64 r] w fun e w' => e = .returned (.int .i64 (-1)) ∧ ∃ m, w' = w.drewN m :=
 rsaid_none y nm k r w h
theorem rlive_q (y : Nat) (nm : ByteArray) (k : Int) (w : World) (h : w.cell? ⟨y, 5, none⟩ = some (.slice none 0 0)) :
  Calls Tryz.prog 166 #[.pointer (some ⟨y, 0, none⟩), .string nm, .int .i64 k] w fun e w' => e = .returned (.int .i64 (-1)) ∧ ∃ m, w' = w.drewN m :=
 rlive_none y nm k w h
theorem keeps_drewN {F : Nat → Prop} {w w' : World} {m : Nat} (h : Keeps F (w.drewN m) w') : Keeps F w w' := ⟨h.os, h.tape, h.output, h.size, h.block⟩
theorem Look.drewN {w : World} {y tb g gb : Nat} {s : Rs} {t : Tk} {rid : Int} {vh : Value} {ta sa ra : Option Addr} {tc sc rc : Nat} {tbs : List Nat} {v : Value} {L : List (Int × Int)} (h : Look w y tb g gb s t rid vh ta sa ra tc sc rc tbs v L) (m : Nat) : Look (w.drewN m) y tb g gb s t rid vh ta sa ra tc sc rc tbs v L :=
 ⟨h.res, h.task, h.goal, own_same h.row fun _ _ => rfl, own_same h.hint fun _ _ => rfl, own_same h.tasks fun _ _ => rfl, own_same h.sent fun _ _ => rfl, own_same h.reps fun _ _ => rfl, h.blk⟩
set_option maxHeartbeats 8000000 in
theorem qwork_send (y tb g gb : Nat) (s : Rs) (t : Tk) (rid : Int) (vh : Value) (ta sa ra : Option Addr) (tc sc rc : Nat) (tbs : List Nat) (v : Value) (L : List (Int × Int)) (k n : Nat) (a : Int) (w : World) (h : Look w y tb g gb s t rid vh ta sa ra tc sc rc tbs v L) (hgs : ∃ cur : Array Value, w.heap[gb]? = some (.cells cur 222 (0, 0)) ∧ cur[0]? = some (.pointer (some ⟨g, 0, none⟩))) (hcnt : t.cnt = cntOf L) (hpart : Part s.hs L) (hok : RsOk s k n) (ht : TkOk t k) (hn : n ≤ 33554432) (hrid : 0 ≤ rid ∧ rid ≤ 65535) (hx : nextS s.hs s.tr t = some a) :
  Calls Tryz.prog 129 #[.pointer (some ⟨y, 0, none⟩), .pointer (some ⟨tb, 0, none⟩)] w fun e w' => e = .returned (.tuple #[]) ∧ SendR w w' y tb g gb s t rid vh (.slice ta tbs.length tc) (.slice ra s.replies.length rc) sa sc v a := by
 have HC : Hid (∀ m, Calls Tryz.prog 167 #[.pointer (some ⟨y, 0, none⟩), .pointer (some ⟨tb, 0, none⟩), .pointer (some ⟨g, 0, none⟩)] (w.drewN m) fun e w' => e = .returned (.bool false) ∧ SendR w w' y tb g gb s t rid vh (.slice ta tbs.length tc) (.slice ra s.replies.length rc) sa sc v a) := by
  intro m
  refine (rlooks_send y tb g gb s t rid vh ta sa ra tc sc rc tbs v L k n a (w.drewN m) (h.drewN m) hcnt hpart hok ht hn hrid hx).mono ?_
  rintro e w' ⟨rfl, aa, as_, am, ca, cs, cm, gc, gt, ct, gs, cs', L', p1, p2, p3, p4, p5, p6, p7, p8, p9, p10⟩
  exact ⟨rfl, aa, as_, am, ca, cs, cm, gc, gt, ct, gs, cs', L', p1, p2, p3, p4, p5, p6, p7, keeps_drewN p8, p9, p10⟩
 obtain ⟨aa, as_, am, ca, cs, cm, gc, wi, wa, wn, wt, wz, h2⟩ := h.task
 have c9 : w.cell? ⟨tb, 9, none⟩ = some (.slice (some ⟨gb, 0, none⟩) 1 gc) := by rw [cell_blk h2]; rfl
 have c5 : w.cell? ⟨y, 5, none⟩ = some (.slice none 0 0) := by rw [cell_blk h.res]; rfl
 have c1 : w.cell? ⟨g, 1, none⟩ = some (.string t.nm) := by rw [cell_blk h.goal]; rfl
 have c2 : w.cell? ⟨g, 2, none⟩ = some (.int .i64 t.ty) := by rw [cell_blk h.goal]; rfl
 obtain ⟨cur, hgb, hc0⟩ := hgs
 have cg : w.cell? ⟨gb, 0, none⟩ = some (.pointer (some ⟨g, 0, none⟩)) := by rw [cell_blk hgb]; exact hc0
 clear h h2 hgb hc0
 go_enter Tryz.func129, Tryz.ntmps129
 go_wp2
 refine wp_loop_rounds 1 ?_
 rw [rounds_succ]
 go_wp2
 go_quiet (fail)
 obtain ⟨X, hX⟩ : ∃ X, w.drewN nq = X := ⟨_, rfl⟩
 have HX : Hid (∃ m, X = w.drewN m) := ⟨nq, hX.symm⟩
 have x5 : X.cell? ⟨y, 5, none⟩ = some (.slice none 0 0) := by rw [← hX]; exact c5
 have x1 : X.cell? ⟨g, 1, none⟩ = some (.string t.nm) := by rw [← hX]; exact c1
 have x2 : X.cell? ⟨g, 2, none⟩ = some (.int .i64 t.ty) := by rw [← hX]; exact c2
 rw [hX]
 clear hX c5 c1 c2 c9 cg
 go_wp2
 go_quiet (first | (go_at_call 163; refine Calls.quiet_of (rsaid_q y t.nm t.ty 2 _ x5)))
 go_wp2_with (first
  | (go_at_call 163; refine (rsaid_q y t.nm 3 2 _ (by exact x5)).mono ?_; rintro e w1 ⟨rfl, m1, rfl⟩)
  | (go_at_call 166; refine (rlive_q y t.nm 0 _ (by exact x5)).mono ?_; rintro e w1 ⟨rfl, m2, rfl⟩))
 obtain ⟨Z, hZ⟩ : ∃ Z, ((X.drewN nq).drewN m1).drewN m2 = Z := ⟨_, rfl⟩
 have HZ : Hid (∃ m, Z = w.drewN m) := by
  obtain ⟨m0, h0⟩ := HX.out
  exact ⟨_, by rw [← hZ, h0, World.drewN_drewN, World.drewN_drewN, World.drewN_drewN]⟩
 have z5 : Z.cell? ⟨y, 5, none⟩ = some (.slice none 0 0) := by rw [← hZ]; exact x5
 have z1 : Z.cell? ⟨g, 1, none⟩ = some (.string t.nm) := by rw [← hZ]; exact x1
 have z2 : Z.cell? ⟨g, 2, none⟩ = some (.int .i64 t.ty) := by rw [← hZ]; exact x2
 simp only [World.drewN_drewN] at hZ ⊢
 rw [hZ]
 clear hZ HX x5 x1 x2
 go_quiet (first | (go_at_call 166; refine Calls.quiet_of (rlive_q y t.nm t.ty _ z5)))
 have HC2 : Hid (Calls Tryz.prog 167 #[.pointer (some ⟨y, 0, none⟩), .pointer (some ⟨tb, 0, none⟩), .pointer (some ⟨g, 0, none⟩)] (Z.drewN nq) fun e w' => e = .returned (.bool false) ∧ SendR w w' y tb g gb s t rid vh (.slice ta tbs.length tc) (.slice ra s.replies.length rc) sa sc v a) := by
  obtain ⟨m0, h0⟩ := HZ.out
  rw [h0, World.drewN_drewN]
  exact HC.out _
 clear z5 z1 z2 HZ HC
 go_wp2_with (go_at_call 167; refine HC2.out.mono ?_; rintro e w1 ⟨rfl, h1⟩)
 refine bodyPost_ret (results_none rfl _ _ _) rfl ?_
 exact ⟨rfl, h1⟩
set_option maxHeartbeats 8000000 in
theorem qwork_end (y tb g gb : Nat) (s : Rs) (t : Tk) (rid : Int) (vh : Value) (ta sa ra : Option Addr) (tc sc rc : Nat) (tbs : List Nat) (v : Value) (L : List (Int × Int)) (k n : Nat) (w : World) (h : Look w y tb g gb s t rid vh ta sa ra tc sc rc tbs v L) (hgs : ∃ cur : Array Value, w.heap[gb]? = some (.cells cur 222 (0, 0)) ∧ cur[0]? = some (.pointer (some ⟨g, 0, none⟩))) (hcnt : t.cnt = cntOf L) (hpart : Part s.hs L) (hok : RsOk s k n) (ht : TkOk t k) (hn : n ≤ 33554432) (h8 : tbs.length ≤ 8) (hx : nextS s.hs s.tr t = none) :
  Calls Tryz.prog 129 #[.pointer (some ⟨y, 0, none⟩), .pointer (some ⟨tb, 0, none⟩)] w fun e w' => e = .returned (.tuple #[]) ∧ RepR (fun k => k = y ∨ k = g ∨ v.ownBlock = some k ∨ (Value.slice ra s.replies.length rc).ownBlock = some k) w w' y tb (rmk s rid vh (.slice sa s.sent.length sc)) tbs (.slice ra s.replies.length rc) (s.replies ++ [(t.num, rB t.id 2 t.nm t.ty)]) := by
 have HC : Hid (∀ m, Calls Tryz.prog 167 #[.pointer (some ⟨y, 0, none⟩), .pointer (some ⟨tb, 0, none⟩), .pointer (some ⟨g, 0, none⟩)] (w.drewN m) fun e w' => e = .returned (.bool false) ∧ RepR (fun k => k = y ∨ k = g ∨ v.ownBlock = some k ∨ (Value.slice ra s.replies.length rc).ownBlock = some k) w w' y tb (rmk s rid vh (.slice sa s.sent.length sc)) tbs (.slice ra s.replies.length rc) (s.replies ++ [(t.num, rB t.id 2 t.nm t.ty)])) := by
  intro m
  refine (rlooks_end y tb g gb s t rid vh ta sa ra tc sc rc tbs v L k n (w.drewN m) (h.drewN m) hcnt hpart hok ht hn h8 hx).mono ?_
  rintro e w' ⟨rfl, vt', g', c, p1, p2, p3, p4, p5⟩
  exact ⟨rfl, vt', g', c, p1, p2, p3, keeps_drewN p4, p5⟩
 obtain ⟨aa, as_, am, ca, cs, cm, gc, wi, wa, wn, wt, wz, h2⟩ := h.task
 have c9 : w.cell? ⟨tb, 9, none⟩ = some (.slice (some ⟨gb, 0, none⟩) 1 gc) := by rw [cell_blk h2]; rfl
 have c5 : w.cell? ⟨y, 5, none⟩ = some (.slice none 0 0) := by rw [cell_blk h.res]; rfl
 have c1 : w.cell? ⟨g, 1, none⟩ = some (.string t.nm) := by rw [cell_blk h.goal]; rfl
 have c2 : w.cell? ⟨g, 2, none⟩ = some (.int .i64 t.ty) := by rw [cell_blk h.goal]; rfl
 obtain ⟨cur, hgb, hc0⟩ := hgs
 have cg : w.cell? ⟨gb, 0, none⟩ = some (.pointer (some ⟨g, 0, none⟩)) := by rw [cell_blk hgb]; exact hc0
 clear h h2 hgb hc0
 go_enter Tryz.func129, Tryz.ntmps129
 go_wp2
 refine wp_loop_rounds 1 ?_
 rw [rounds_succ]
 go_wp2
 go_quiet (fail)
 obtain ⟨X, hX⟩ : ∃ X, w.drewN nq = X := ⟨_, rfl⟩
 have HX : Hid (∃ m, X = w.drewN m) := ⟨nq, hX.symm⟩
 have x5 : X.cell? ⟨y, 5, none⟩ = some (.slice none 0 0) := by rw [← hX]; exact c5
 have x1 : X.cell? ⟨g, 1, none⟩ = some (.string t.nm) := by rw [← hX]; exact c1
 have x2 : X.cell? ⟨g, 2, none⟩ = some (.int .i64 t.ty) := by rw [← hX]; exact c2
 rw [hX]
 clear hX c5 c1 c2 c9 cg
 go_wp2
 go_quiet (first | (go_at_call 163; refine Calls.quiet_of (rsaid_q y t.nm t.ty 2 _ x5)))
 go_wp2_with (first
  | (go_at_call 163; refine (rsaid_q y t.nm 3 2 _ (by exact x5)).mono ?_; rintro e w1 ⟨rfl, m1, rfl⟩)
  | (go_at_call 166; refine (rlive_q y t.nm 0 _ (by exact x5)).mono ?_; rintro e w1 ⟨rfl, m2, rfl⟩))
 obtain ⟨Z, hZ⟩ : ∃ Z, ((X.drewN nq).drewN m1).drewN m2 = Z := ⟨_, rfl⟩
 have HZ : Hid (∃ m, Z = w.drewN m) := by
  obtain ⟨m0, h0⟩ := HX.out
  exact ⟨_, by rw [← hZ, h0, World.drewN_drewN, World.drewN_drewN, World.drewN_drewN]⟩
 have z5 : Z.cell? ⟨y, 5, none⟩ = some (.slice none 0 0) := by rw [← hZ]; exact x5
 have z1 : Z.cell? ⟨g, 1, none⟩ = some (.string t.nm) := by rw [← hZ]; exact x1
 have z2 : Z.cell? ⟨g, 2, none⟩ = some (.int .i64 t.ty) := by rw [← hZ]; exact x2
 simp only [World.drewN_drewN] at hZ ⊢
 rw [hZ]
 clear hZ HX x5 x1 x2
 go_quiet (first | (go_at_call 166; refine Calls.quiet_of (rlive_q y t.nm t.ty _ z5)))
 have HC2 : Hid (Calls Tryz.prog 167 #[.pointer (some ⟨y, 0, none⟩), .pointer (some ⟨tb, 0, none⟩), .pointer (some ⟨g, 0, none⟩)] (Z.drewN nq) fun e w' => e = .returned (.bool false) ∧ RepR (fun k => k = y ∨ k = g ∨ v.ownBlock = some k ∨ (Value.slice ra s.replies.length rc).ownBlock = some k) w w' y tb (rmk s rid vh (.slice sa s.sent.length sc)) tbs (.slice ra s.replies.length rc) (s.replies ++ [(t.num, rB t.id 2 t.nm t.ty)])) := by
  obtain ⟨m0, h0⟩ := HZ.out
  rw [h0, World.drewN_drewN]
  exact HC.out _
 clear z5 z1 z2 HZ HC
 go_wp2_with (go_at_call 167; refine HC2.out.mono ?_; rintro e w1 ⟨rfl, h1⟩)
 refine bodyPost_ret (results_none rfl _ _ _) rfl ?_
 exact ⟨rfl, h1⟩
end Go.Proofs.YtefdokkadckbbaaGreatDoor
end
section
namespace Go.Proofs.YtefdokkadckbbaaGreatDoor
open Go.RowKit
set_option maxRecDepth 100000
abbrev tbOf (p : Rb × Tk) : Nat := p.1.tb
theorem map_tb (ps : List (Rb × Tk)) : (ps.map fun p => Value.pointer (some ⟨p.1.tb, 0, none⟩)) = (ps.map tbOf).map fun b => Value.pointer (some ⟨b, 0, none⟩) := by simp [List.map_map, Function.comp_def]
theorem others_mid {A B : List (Rb × Tk)} {p : Rb × Tk} (h : ((A ++ p :: B).map tbOf).Nodup) : others p.1.tb ((A ++ p :: B).map tbOf) = (A ++ B).map tbOf := by
 rw [List.map_append, List.map_cons, List.nodup_append] at h
 obtain ⟨_, h2, h3⟩ := h
 rw [List.nodup_cons] at h2
 unfold others
 rw [List.map_append, List.map_cons, List.filter_append, List.filter_cons, List.map_append]
 have hA : (A.map tbOf).filter (fun b => b != p.1.tb) = A.map tbOf := List.filter_eq_self.2 fun b hb => by simpa using h3 b hb p.1.tb (by simp)
 have hB : (B.map tbOf).filter (fun b => b != p.1.tb) = B.map tbOf := List.filter_eq_self.2 fun b hb => by
  simp only [bne_iff_ne, ne_eq]
  rintro rfl
  exact h2.1 hb
 rw [hA, hB]
 simp
section
variable {W w' : World} {F : Nat → Prop} {y : Nat} {s : Rs} {ps A B : List (Rb × Tk)} {b : Rb} {t : Tk} {vh vt vs vr : Value} {rid : Int}
theorem RRc.look (h : RRc W F y s ps vh vt vs vr rid) (hp : (b, t) ∈ ps) : ∃ (ta sa ra : Option Addr) (tc sc rc : Nat), vt = .slice ta ps.length tc ∧ vs = .slice sa s.sent.length sc ∧ vr = .slice ra s.replies.length rc ∧
  Look W y b.tb b.g b.gb s t rid vh ta sa ra tc sc rc (ps.map tbOf) b.vt b.L := by
 obtain ⟨ta, tc, e1⟩ := own_val' h.tasks
 obtain ⟨sa, sc, e2⟩ := own_val' h.sent
 obtain ⟨ra, rc, e3⟩ := own_val' h.reps
 have hT := h.task _ hp
 have hl : (ps.map tbOf).length = ps.length := List.length_map _
 have h1 := h.res
 have h2 := h.tasks
 rw [e1, map_tb] at h2
 refine ⟨ta, sa, ra, tc, sc, rc, e1, e2, e3, ?_, hT.task, hT.goal, hT.row, h.hint, ?_, ?_, ?_, fun b' hb' => ?_⟩
 ·rw [hl, ← e1, ← e2, ← e3]; exact h1
 ·rw [hl]; exact h2
 ·rw [← e2]; exact h.sent
 ·rw [← e3]; exact h.reps
 ·obtain ⟨p, hp', rfl⟩ := List.mem_map.1 hb'
  obtain ⟨_, _, _, _, _, _, _, _, _, _, _, _, q⟩ := (h.task p hp').task
  exact ⟨_, q⟩
theorem RRc.far (h : RRc W F y s (A ++ (b, t) :: B) vh vt vs vr rid) {p : Rb × Tk} (hp : p ∈ A ++ B) {k : Nat} (hk : p.1.has k) : k ≠ y ∧ k ≠ b.tb ∧ k ≠ b.g ∧ b.vt.ownBlock ≠ some k ∧ vs.ownBlock ≠ some k ∧ vr.ownBlock ≠ some k := by
 have hpm : p ∈ A ++ (b, t) :: B := by
  rcases List.mem_append.1 hp with h | h
  ·exact List.mem_append_left _ h
  ·exact List.mem_append_right _ (List.mem_cons_of_mem _ h)
 have hP := h.task _ hpm
 have hT := h.task (b, t) (List.mem_append_right _ List.mem_cons_self)
 obtain ⟨n1, n2, n3⟩ := h.nod
 obtain ⟨_, _, _, _, _, _, _, _, _, _, _, _, t1⟩ := hT.task
 obtain ⟨_, _, _, _, _, _, _, _, _, _, _, _, p1⟩ := hP.task
 obtain ⟨cur, p2, _⟩ := hP.goals
 have e1 : p.1.tb ≠ b.tb := by
  intro e
  rw [List.map_append, List.map_cons, List.nodup_append, List.nodup_cons] at n1
  rcases List.mem_append.1 hp with h | h
  ·exact n1.2.2 p.1.tb (List.mem_map.2 ⟨p, h, rfl⟩) b.tb (by simp) e
  ·exact n1.2.1.1 (List.mem_map.2 ⟨p, h, e⟩)
 have e2 : p.1.g ≠ b.g := by
  intro e
  rw [List.map_append, List.map_cons, List.nodup_append, List.nodup_cons] at n2
  rcases List.mem_append.1 hp with h | h
  ·exact n2.2.2 p.1.g (List.mem_map.2 ⟨p, h, rfl⟩) b.g (by simp) e
  ·exact n2.2.1.1 (List.mem_map.2 ⟨p, h, e⟩)
 have e3 : p.1.vt.ownBlock = some k → b.vt.ownBlock ≠ some k := by
  intro e e'
  rw [List.pairwise_append, List.pairwise_cons] at n3
  rcases List.mem_append.1 hp with h | h
  ·exact n3.2.2 p h (b, t) (by simp) k e e'
  ·exact n3.2.1.1 p h k e' e
 have f : ∀ (c : Array Value) (e : TypeId), W.heap[k]? = some (.cells c e (0, 0)) → (e ≠ 163 → k ≠ y) ∧ (e ≠ 220 → k ≠ b.tb) ∧ (e ≠ 226 → k ≠ b.g) ∧ (e ≠ 386 → b.vt.ownBlock ≠ some k) ∧ (e ≠ 105 → vs.ownBlock ≠ some k) ∧ (e ≠ 66 → vr.ownBlock ≠ some k) := fun c e hk =>
  ⟨fun he => kind_ne hk h.res he, fun he => kind_ne hk t1 he, fun he => kind_ne hk hT.goal he, fun he e' => own_far hT.row hk he.symm e'.symm, fun he e' => own_far h.sent hk he.symm e'.symm, fun he e' => own_far h.reps hk he.symm e'.symm⟩
 rcases hk with rfl | rfl | rfl | hk
 ·obtain ⟨f1, f2, f3, f4, f5, f6⟩ := f _ 220 p1
  exact ⟨f1 (by decide), e1, f3 (by decide), f4 (by decide), f5 (by decide), f6 (by decide)⟩
 ·obtain ⟨f1, f2, f3, f4, f5, f6⟩ := f _ 222 p2
  exact ⟨f1 (by decide), f2 (by decide), f3 (by decide), f4 (by decide), f5 (by decide), f6 (by decide)⟩
 ·obtain ⟨f1, f2, f3, f4, f5, f6⟩ := f _ 226 hP.goal
  exact ⟨f1 (by decide), f2 (by decide), e2, f4 (by decide), f5 (by decide), f6 (by decide)⟩
 ·obtain ⟨c, hc⟩ := own_blk hP.row hk
  obtain ⟨f1, f2, f3, f4, f5, f6⟩ := f _ 386 hc
  exact ⟨f1 (by decide), f2 (by decide), f3 (by decide), e3 hk, f5 (by decide), f6 (by decide)⟩
theorem RRc.end (h : RRc W F y s (A ++ (b, t) :: B) vh vt vs vr rid) {Q : List (Int × ByteArray)}
  (hR : RepR (fun k => k = y ∨ k = b.g ∨ b.vt.ownBlock = some k ∨ vr.ownBlock = some k) W w' y b.tb (rmk s rid vh vs) ((A ++ (b, t) :: B).map tbOf) vr Q) :
  ∃ F' vt' vr', RRc w' F' y { s with replies := Q } (A ++ B) vh vt' vs vr' rid ∧ Keeps F W w' ∧ ∀ k, F' k → F k ∨ W.heap.size ≤ k := by
 obtain ⟨vt', g, c, h1, h2, h3, h4, h5⟩ := hR
 rw [others_mid h.nod.1] at h3
 have hT := h.task (b, t) (List.mem_append_right _ List.mem_cons_self)
 have hsub : ∀ p, p ∈ A ++ B → p ∈ A ++ (b, t) :: B := fun p hp => by
  rcases List.mem_append.1 hp with h | h
  ·exact List.mem_append_left _ h
  ·exact List.mem_append_right _ (List.mem_cons_of_mem _ h)
 have hsl : (A ++ B).Sublist (A ++ (b, t) :: B) := List.Sublist.append_left (List.sublist_cons_self _ _) A
 have hkf : ∀ (k : Nat) (c : Array Value) (e : TypeId), e ≠ 163 → e ≠ 226 → e ≠ 386 → e ≠ 66 → W.heap[k]? = some (.cells c e (0, 0)) → w'.heap[k]? = W.heap[k]? := fun k c e e1 e2 e3 e4 hk => h4.block k (Array.getElem?_eq_some_iff.1 hk).1 (by
  rintro (rfl | rfl | h' | h')
  ·exact kind_ne hk h.res e1 rfl
  ·exact kind_ne hk hT.goal e2 rfl
  ·exact own_far hT.row hk e3.symm h'.symm
  ·exact own_far h.reps hk e4.symm h'.symm)
 obtain ⟨o1, o2, o3, o4, o5, o6⟩ := h.own
 have hbF : ∀ k, b.has k → F k := fun k hk => o6 (b, t) (List.mem_append_right _ List.mem_cons_self) k hk
 have hK : Keeps F W w' := h4.mono fun k hk => by
  rcases hk with rfl | rfl | h' | h'
  ·exact o1
  ·exact hbF _ (.inr (.inr (.inl rfl)))
  ·exact hbF _ (.inr (.inr (.inr h')))
  ·exact o5 k h'
 have hz := h4.size
 have h00 : 0 < W.heap.size := Nat.lt_of_le_of_lt (Nat.zero_le _) (h.lt y o1)
 refine ⟨fun k => F k ∨ (vt'.ownBlock = some k ∨ k = g), vt', _, ⟨h1, h.rid, own_same h.hint fun k e => ?_, ?_, own_same h.sent fun k e => ?_, h2, fun p hp => (h.task p (hsub p hp)).same fun k hk => ?_, ⟨?_, ?_, ?_⟩, ⟨.inl o1, fun k e => .inl (o2 k e), fun k e => .inr (.inl e), fun k e => .inl (o4 k e), fun k e => .inr (.inr ?_), fun p hp k e => .inl (o6 p (hsub p hp) k e)⟩, ?_, ?_⟩, hK, ?_⟩
 ·obtain ⟨cc, hc⟩ := own_blk h.hint e
  exact hkf k _ 3 (by decide) (by decide) (by decide) (by decide) hc
 ·rw [map_tb]
  have := own_low h3 (Nat.zero_le _)
  rwa [List.length_map] at this
 ·obtain ⟨cc, hc⟩ := own_blk h.sent e
  exact hkf k _ 105 (by decide) (by decide) (by decide) (by decide) hc
 ·obtain ⟨f1, f2, f3, f4, f5, f6⟩ := h.far hp hk
  exact h4.block k (h.lt k (o6 p (hsub p hp) k hk)) (by
   rintro (e | e | e | e)
   ·exact f1 e
   ·exact f3 e
   ·exact f4 e
   ·exact f6 e)
 ·exact (hsl.map tbOf).nodup h.nod.1
 ·exact (hsl.map (·.1.g)).nodup h.nod.2.1
 ·exact h.nod.2.2.sublist hsl
 ·simpa [Value.ownBlock] using e.symm
 ·rintro k (hk | hk | rfl)
  ·exact Nat.lt_of_lt_of_le (h.lt k hk) hz
  ·exact (h3.lt k hk).2
  ·exact (h2.lt k rfl).2
 ·rintro (hk | hk | rfl)
  ·exact h.zero hk
  ·have := (h3.lt 0 hk).1; omega
  ·rcases h5 with h5 | h5
   ·exact h.zero (o5 0 h5)
   ·omega
 ·rintro k (hk | hk | rfl)
  ·exact .inl hk
  ·exact .inr (h3.lt k hk).1
  ·rcases h5 with h5 | h5
   ·exact .inl (o5 _ h5)
   ·exact .inr h5
theorem RRc.send (h : RRc W F y s (A ++ (b, t) :: B) vh vt vs vr rid) {sa : Option Addr} {sc : Nat} {a : Int} (evs : vs = .slice sa s.sent.length sc)
  (hR : SendR W w' y b.tb b.g b.gb s t rid vh vt vr sa sc b.vt a) :
  ∃ F' b' vs', b'.tb = b.tb ∧ RRc w' F' y { s with nid := (s.nid + 1) % 65536, sent := s.sent ++ [(a, qB s.nid t.nm t.ty)] } (A ++ (b', triedS s.now t a) :: B) vh vt vs' vr s.nid ∧ Keeps F W w' ∧ ∀ k, F' k → F k ∨ W.heap.size ≤ k := by
 obtain ⟨aa, as_, am, ca, cs, cm, gc, gt, ct, gs, cs', L', p1, p2, p3, p4, p5, p6, p7, p8, p9, p10⟩ := hR
 rw [← evs] at p8 p10
 rw [h.rid.1] at p1 p2 p5
 have hT := h.task (b, t) (List.mem_append_right _ List.mem_cons_self)
 obtain ⟨_, _, _, _, _, _, _, _, _, _, _, _, t1⟩ := hT.task
 obtain ⟨cur, t2, t3⟩ := hT.goals
 have hsub : ∀ p, p ∈ A ++ B → p ∈ A ++ (b, t) :: B := fun p hp => by
  rcases List.mem_append.1 hp with h | h
  ·exact List.mem_append_left _ h
  ·exact List.mem_append_right _ (List.mem_cons_of_mem _ h)
 have hkf : ∀ (k : Nat) (c : Array Value) (e : TypeId), e ≠ 163 → e ≠ 220 → e ≠ 226 → e ≠ 386 → e ≠ 105 → W.heap[k]? = some (.cells c e (0, 0)) → w'.heap[k]? = W.heap[k]? := fun k c e e1 e2 e3 e4 e5 hk => p8.block k (Array.getElem?_eq_some_iff.1 hk).1 (by
  rintro (rfl | rfl | rfl | h' | h')
  ·exact kind_ne hk h.res e1 rfl
  ·exact kind_ne hk t1 e2 rfl
  ·exact kind_ne hk hT.goal e3 rfl
  ·exact own_far hT.row hk e4.symm h'.symm
  ·exact own_far h.sent hk e5.symm h'.symm)
 obtain ⟨o1, o2, o3, o4, o5, o6⟩ := h.own
 have hbF : ∀ k, b.has k → F k := fun k hk => o6 (b, t) (List.mem_append_right _ List.mem_cons_self) k hk
 have hK : Keeps F W w' := p8.mono fun k hk => by
  rcases hk with rfl | rfl | rfl | h' | h'
  ·exact o1
  ·exact hbF _ (.inl rfl)
  ·exact hbF _ (.inr (.inr (.inl rfl)))
  ·exact hbF _ (.inr (.inr (.inr h')))
  ·exact o4 k h'
 have hz := p8.size
 have h00 : 0 < W.heap.size := Nat.lt_of_le_of_lt (Nat.zero_le _) (h.lt y o1)
 have hgtF : F gt ∨ W.heap.size ≤ gt := by
  rcases p9 with h' | h'
  ·exact .inl (hbF _ (.inr (.inr (.inr h'))))
  ·exact .inr h'
 have hgsF : F gs ∨ W.heap.size ≤ gs := by
  rcases p10 with h' | h'
  ·exact .inl (o4 _ h')
  ·exact .inr h'
 obtain ⟨b', hb'⟩ : ∃ b' : Rb, b' = ⟨b.tb, b.gb, b.g, .slice (some ⟨gt, 0, none⟩) L'.length ct, L'⟩ := ⟨_, rfl⟩
 have hsl : (s.sent ++ [(a, qB s.nid t.nm t.ty)]).length = s.sent.length + 1 := by simp
 have hpv : ∀ p, p ∈ A ++ B → ∀ k, p.1.vt.ownBlock = some k → gt ≠ k := by
  rintro p hp k hk rfl
  rcases p9 with h' | h'
  ·exact (h.far hp (k := gt) (.inr (.inr (.inr hk)))).2.2.2.1 h'
  ·have := h.lt gt (o6 p (hsub p hp) gt (.inr (.inr (.inr hk)))); omega
 refine ⟨fun k => F k ∨ (k = gt ∨ k = gs), b', .slice (some ⟨gs, 0, none⟩) (s.sent.length + 1) cs', by rw [hb'], ⟨p1, ?_, own_same h.hint fun k e => ?_, ?_, ?_, own_same h.reps fun k e => ?_, fun p hp => ?_, ⟨?_, ?_, ?_⟩, ⟨.inl o1, fun k e => .inl (o2 k e), fun k e => .inl (o3 k e), fun k e => .inr (.inr ?_), fun k e => .inl (o5 k e), fun p hp k e => ?_⟩, ?_, ?_⟩, hK, ?_⟩
 ·have hr := h.rid
  refine ⟨rfl, ?_, ?_⟩ <;> omega
 ·obtain ⟨cc, hc⟩ := own_blk h.hint e
  exact hkf k _ 3 (by decide) (by decide) (by decide) (by decide) (by decide) hc
 ·have e : ∀ q : Rb × Tk, q.1.tb = b.tb → ((A ++ q :: B).map fun p => Value.pointer (some ⟨p.1.tb, 0, none⟩)) = (A ++ (b, t) :: B).map fun p => Value.pointer (some ⟨p.1.tb, 0, none⟩) := fun q hq => by simp [hq]
  rw [e _ (by rw [hb'])]
  have hl : (A ++ (b', triedS s.now t a) :: B).length = (A ++ (b, t) :: B).length := by simp
  rw [hl]
  refine own_same h.tasks fun k e => ?_
  obtain ⟨cc, hc⟩ := own_blk h.tasks e
  exact hkf k _ 217 (by decide) (by decide) (by decide) (by decide) (by decide) hc
 ·show w'.ownsRow 0 105 2 _ (s.sent ++ [(a, qB s.nid t.nm t.ty)]).length _
  rw [hsl]; exact p5
 ·obtain ⟨cc, hc⟩ := own_blk h.reps e
  exact hkf k _ 66 (by decide) (by decide) (by decide) (by decide) (by decide) hc
 ·have hold : ∀ p, p ∈ A ++ B → RTk w' s.hs p.1 p.2 := fun p hp => (h.task p (hsub p hp)).same fun k hk => by
   obtain ⟨f1, f2, f3, f4, f5, f6⟩ := h.far hp hk
   exact p8.block k (h.lt k (o6 p (hsub p hp) k hk)) (by
    rintro (e | e | e | e | e)
    ·exact f1 e
    ·exact f2 e
    ·exact f3 e
    ·exact f4 e
    ·exact f5 e)
  rcases List.mem_append.1 hp with hp | hp
  ·exact hold p (List.mem_append_left _ hp)
  ·rcases List.mem_cons.1 hp with rfl | hp
   ·subst hb'
    exact ⟨⟨aa, as_, am, ca, cs, cm, gc, s.nid, a, t.nm, t.ty, ⟨#[]⟩, p2⟩, ⟨cur, (hkf b.gb _ 222 (by decide) (by decide) (by decide) (by decide) (by decide) t2).trans t2, t3⟩, p3, p4, p6.symm, p7⟩
   ·exact hold p (List.mem_append_right _ hp)
 ·have := h.nod.1
  rw [List.map_append, List.map_cons] at this ⊢
  rw [hb']; exact this
 ·have := h.nod.2.1
  rw [List.map_append, List.map_cons] at this ⊢
  rw [hb']; exact this
 ·have := h.nod.2.2
  rw [List.pairwise_append, List.pairwise_cons] at this ⊢
  obtain ⟨a1, ⟨a2, a3⟩, a4⟩ := this
  refine ⟨a1, ⟨fun q hq k hk => ?_, a3⟩, fun p hp q hq k hk => ?_⟩
  ·rw [hb'] at hk
   obtain rfl : gt = k := by simpa [Value.ownBlock] using hk
   exact fun e => hpv q (List.mem_append_right _ hq) _ e rfl
  ·rcases List.mem_cons.1 hq with rfl | hq
   ·rw [hb']
    intro e
    obtain rfl : gt = k := by simpa [Value.ownBlock] using e
    exact hpv p (List.mem_append_left _ hp) _ hk rfl
   ·exact a4 p hp q (List.mem_cons_of_mem _ hq) k hk
 ·simpa [Value.ownBlock] using e.symm
 ·rcases List.mem_append.1 hp with hp | hp
  ·exact .inl (o6 p (List.mem_append_left _ hp) k e)
  ·rcases List.mem_cons.1 hp with rfl | hp
   ·rw [hb'] at e
    rcases e with e | e | e | e
    ·exact .inl (hbF k (.inl e))
    ·exact .inl (hbF k (.inr (.inl e)))
    ·exact .inl (hbF k (.inr (.inr (.inl e))))
    ·exact .inr (.inl (by simpa [Value.ownBlock] using e.symm))
   ·exact .inl (o6 p (List.mem_append_right _ (List.mem_cons_of_mem _ hp)) k e)
 ·rintro k (hk | rfl | rfl)
  ·exact Nat.lt_of_lt_of_le (h.lt k hk) hz
  ·exact (p4.lt k rfl).2
  ·exact (p5.lt k rfl).2
 ·rintro (hk | rfl | rfl)
  ·exact h.zero hk
  ·rcases hgtF with h' | h'
   ·exact h.zero h'
   ·omega
  ·rcases hgsF with h' | h'
   ·exact h.zero h'
   ·omega
 ·rintro k (hk | rfl | rfl)
  ·exact .inl hk
  ·exact hgtF
  ·exact hgsF
end
theorem qwork_any (y : Nat) (F : Nat → Prop) (s : Rs) (A B : List (Rb × Tk)) (b : Rb) (t : Tk) (vh vt vs vr : Value) (rid : Int) (k n : Nat) (w : World) (h : RRc w F y s (A ++ (b, t) :: B) vh vt vs vr rid) (hok : RsOk s k n) (ht : TkOk t k) (hn : n ≤ 33554432) (h8 : (A ++ (b, t) :: B).length ≤ 8) :
  Calls Tryz.prog 129 #[.pointer (some ⟨y, 0, none⟩), .pointer (some ⟨b.tb, 0, none⟩)] w fun e w' => e = .returned (.tuple #[]) ∧ ∃ (F' : Nat → Prop) (r : List (Rb × Tk)) (vt' vs' vr' : Value) (rid' : Int), RRc w' F' y (workS s t).1 (A ++ r ++ B) vh vt' vs' vr' rid' ∧ r.map (·.2) = (workS s t).2 ∧
   Keeps F w w' ∧ ∀ k, F' k → F k ∨ w.heap.size ≤ k := by
 have hm : (b, t) ∈ A ++ (b, t) :: B := List.mem_append_right _ List.mem_cons_self
 obtain ⟨ta, sa, ra, tc, sc, rc, e1, e2, e3, hL⟩ := h.look hm
 have hT := h.task _ hm
 have hl : ((A ++ (b, t) :: B).map tbOf).length = (A ++ (b, t) :: B).length := List.length_map _
 cases hx : nextS s.hs s.tr t with
 | some a =>
  refine (qwork_send y b.tb b.g b.gb s t rid vh ta sa ra tc sc rc _ b.vt b.L k n a w hL hT.goals hT.cnt hT.part hok ht hn h.rid.2 hx).mono ?_
  rintro e w' ⟨rfl, hR⟩
  rw [hl, ← e1, ← e3] at hR
  obtain ⟨F', b', vs', hb, h1, h2, h3⟩ := h.send e2 hR
  refine ⟨rfl, F', [(b', triedS s.now t a)], vt, vs', vr, s.nid, ?_, ?_, h2, h3⟩
  ·unfold workS
   rw [hx, List.append_assoc]
   exact h1
  ·unfold workS
   rw [hx]
   rfl
 | none =>
  refine (qwork_end y b.tb b.g b.gb s t rid vh ta sa ra tc sc rc _ b.vt b.L k n w hL hT.goals hT.cnt hT.part hok ht hn (by rw [hl]; exact h8) hx).mono ?_
  rintro e w' ⟨rfl, hR⟩
  rw [← e3, ← e2] at hR
  obtain ⟨F', vt', vr', h1, h2, h3⟩ := h.end hR
  refine ⟨rfl, F', [], vt', vs, vr', rid, ?_, ?_, h2, h3⟩
  ·unfold workS
   rw [hx, List.append_nil]
   exact h1
  ·unfold workS
   rw [hx]
   rfl
end Go.Proofs.YtefdokkadckbbaaGreatDoor
end
section
namespace Go.Proofs.YtefdokkadckbbaaGreatDoor
open Go.RowKit
set_option maxRecDepth 100000
section
variable {W W' : World} {F : Nat → Prop} {y : Nat} {s s' : Rs} {ps : List (Rb × Tk)} {vh vt vs vr : Value} {rid : Int}
theorem RRc.put (h : RRc W F y s ps vh vt vs vr rid) (hK : Keeps (fun k => k = y) W W') (hy : W'.heap[y]? = some (rresO vh s'.en s'.tr s'.pa s'.mx s'.now rid s'.asked vt vs vr)) (h1 : s'.hs = s.hs) (h2 : s'.sent = s.sent) (h3 : s'.replies = s.replies) (h4 : s'.nid = s.nid) : RRc W' F y s' ps vh vt vs vr rid := by
 have hk : ∀ (k : Nat) (c : Array Value) (e : TypeId), e ≠ 163 → W.heap[k]? = some (.cells c e (0, 0)) → W'.heap[k]? = W.heap[k]? := fun k c e he hc => hK.block k (Array.getElem?_eq_some_iff.1 hc).1 (kind_ne hc h.res he)
 have g1 : W'.ownsRow 0 3 1 vh s.hs.length (s.hs.map fun a => Value.int .i64 a) := own_same h.hint fun k e => by
  obtain ⟨c, hc⟩ := own_blk h.hint e
  exact hk k _ 3 (by decide) hc
 have g2 : W'.ownsRow 0 105 2 vs s.sent.length (pcells s.sent) := own_same h.sent fun k e => by
  obtain ⟨c, hc⟩ := own_blk h.sent e
  exact hk k _ 105 (by decide) hc
 have g3 : W'.ownsRow 0 66 2 vr s.replies.length (pcells s.replies) := own_same h.reps fun k e => by
  obtain ⟨c, hc⟩ := own_blk h.reps e
  exact hk k _ 66 (by decide) hc
 have g4 : ∀ p ∈ ps, RTk W' s.hs p.1 p.2 := fun p hp => (h.task p hp).same fun k e => by
  have hP := h.task p hp
  obtain ⟨_, _, _, _, _, _, _, _, _, _, _, _, p1⟩ := hP.task
  obtain ⟨cur, p2, _⟩ := hP.goals
  rcases e with rfl | rfl | rfl | e
  ·exact hk _ _ 220 (by decide) p1
  ·exact hk _ _ 222 (by decide) p2
  ·exact hk _ _ 226 (by decide) hP.goal
  ·obtain ⟨c, hc⟩ := own_blk hP.row e
   exact hk k _ 386 (by decide) hc
 refine ⟨hy, by rw [h4]; exact h.rid, by rw [h1]; exact g1, own_same h.tasks fun k e => ?_, by rw [h2]; exact g2, by rw [h3]; exact g3, by rw [h1]; exact g4, h.nod, h.own, fun k hf => Nat.lt_of_lt_of_le (h.lt k hf) hK.size, h.zero⟩
 obtain ⟨c, hc⟩ := own_blk h.tasks e
 exact hk k _ 217 (by decide) hc
end
theorem qgo_yes {s : Rs} {t : Tk} {r : List Tk} (h : s.pa ≤ s.now - t.at_) : tickGo s (t :: r) = ((tickGo (workS s t).1 r).1, (workS s t).2 ++ (tickGo (workS s t).1 r).2) := by
 rw [tickGo, if_pos h]
theorem qgo_no {s : Rs} {t : Tk} {r : List Tk} (h : ¬ s.pa ≤ s.now - t.at_) : tickGo s (t :: r) = ((tickGo s r).1, t :: (tickGo s r).2) := by
 rw [tickGo, if_neg h]
structure QTick (w wr : World) (F : Nat → Prop) (y : Nat) (s1 : Rs) (ps : List (Rb × Tk)) (l : Value) (k n j : Nat) (F' : Nat → Prop) (s' : Rs) (K : List (Rb × Tk)) (vh vt vs vr : Value) (rid : Int) : Prop where
 core : RRc wr F' y s' (K ++ ps.drop j) vh vt vs vr rid
 one : (tickGo s1 (ps.map (·.2))).1 = (tickGo s' ((ps.drop j).map (·.2))).1
 two : (tickGo s1 (ps.map (·.2))).2 = K.map (·.2) ++ (tickGo s' ((ps.drop j).map (·.2))).2
 ok : RsOk s' k (n + j)
 len : K.length ≤ j
 keeps : Keeps F w wr
 new : ∀ i, F' i → F i ∨ w.heap.size ≤ i
 copy : wr.ownsRow w.heap.size 217 1 l ps.length ((ps.map tbOf).map fun b => Value.pointer (some ⟨b, 0, none⟩))
 far : ∀ i, l.ownBlock = some i → ¬ F' i
section
variable {w wr : World} {F F' : Nat → Prop} {y : Nat} {s1 s' : Rs} {ps K : List (Rb × Tk)} {l vh vt vs vr : Value} {k n j : Nat} {rid : Int} {b : Rb} {t : Tk}
theorem drop_at {ps : List (Rb × Tk)} {j : Nat} {p : Rb × Tk} (h : ps[j]? = some p) : ps.drop j = p :: ps.drop (j + 1) := by
 obtain ⟨hj, rfl⟩ := List.getElem?_eq_some_iff.1 h
 exact List.drop_eq_getElem_cons hj
theorem QTick.work (h : QTick w wr F y s1 ps l k n j F' s' K vh vt vs vr rid) (hp : ps[j]? = some (b, t)) (ht : TkOk t k) (hov : s'.pa ≤ s'.now - t.at_) (hn : n + 8 ≤ 33554432) (h8 : ps.length ≤ 8) (m : Nat) :
  Calls Tryz.prog 129 #[.pointer (some ⟨y, 0, none⟩), .pointer (some ⟨b.tb, 0, none⟩)] (wr.drewN m) fun e w' => e = .returned (.tuple #[]) ∧ ∃ (F2 : Nat → Prop) (s2 : Rs) (K2 : List (Rb × Tk)) (vt2 vs2 vr2 : Value) (rid2 : Int), QTick w w' F y s1 ps l k n (j + 1) F2 s2 K2 vh vt2 vs2 vr2 rid2 := by
 have hj : j < ps.length := (List.getElem?_eq_some_iff.1 hp).1
 have hd := drop_at hp
 have hlen := h.len
 have hc := h.core
 rw [hd] at hc
 refine (qwork_any y F' s' K (ps.drop (j + 1)) b t vh vt vs vr rid k (n + j) (wr.drewN m) (hc.same (Nat.le_refl _) fun _ _ => rfl) h.ok ht (by omega) (by simp only [List.length_append, List.length_cons, List.length_drop]; omega)).mono ?_
 rintro e w' ⟨rfl, F2, r, vt2, vs2, vr2, rid2, h1, h2, h3, h4⟩
 have hwo := work_ok h.ok ht
 have hrl : r.length ≤ 1 := by
  have := congrArg List.length h2
  rw [List.length_map] at this
  rw [this]; exact hwo.2.2
 have h3' := keeps_drewN h3
 refine ⟨rfl, F2, (workS s' t).1, K ++ r, vt2, vs2, vr2, rid2, h1, ?_, ?_, hwo.1, by rw [List.length_append]; omega, h.keeps.then h3' h.new, fun i hi => ?_, own_same h.copy fun i e => h3'.block i (h.copy.lt i e).2 (h.far i e), fun i e hf => ?_⟩
 ·rw [h.one, hd, List.map_cons, qgo_yes hov]
 ·rw [h.two, hd, List.map_cons, qgo_yes hov, List.map_append, h2, List.append_assoc]
 ·rcases h4 i hi with h' | h'
  ·exact h.new i h'
  ·exact .inr (Nat.le_trans h.keeps.size h')
 ·rcases h4 i hf with h' | h'
  ·exact h.far i e h'
  ·have h5 : i < wr.heap.size := (h.copy.lt i e).2
   have h6 : wr.heap.size ≤ i := h'
   omega
theorem QTick.skip (h : QTick w wr F y s1 ps l k n j F' s' K vh vt vs vr rid) (hp : ps[j]? = some (b, t)) (hov : ¬ s'.pa ≤ s'.now - t.at_) (m : Nat) : QTick w (wr.drewN m) F y s1 ps l k n (j + 1) F' s' (K ++ [(b, t)]) vh vt vs vr rid := by
 have hd := drop_at hp
 refine ⟨?_, ?_, ?_, h.ok.mono (Nat.le_refl _) (by omega), by have := h.len; simp; omega, ⟨h.keeps.os, h.keeps.tape, h.keeps.output, h.keeps.size, h.keeps.block⟩, h.new, own_same h.copy fun _ _ => rfl, h.far⟩
 ·rw [List.append_assoc, List.singleton_append, ← hd]
  exact h.core.same (Nat.le_refl _) fun _ _ => rfl
 ·rw [h.one, hd, List.map_cons, qgo_no hov]
 ·rw [h.two, hd, List.map_cons, qgo_no hov]
  simp
end
theorem qtick_end {w wr : World} {F F' : Nat → Prop} {y : Nat} {s s1 s' : Rs} {ps K : List (Rb × Tk)} {l vh vt vs vr : Value} {k n : Nat} {rid : Int} (hf : tickS s = { (tickGo s1 (ps.map (·.2))).1 with tasks := (tickGo s1 (ps.map (·.2))).2 }) (h : QTick w wr F y s1 ps l k n ps.length F' s' K vh vt vs vr rid) : RRs wr F' y (tickS s) := by
 have e1 := h.one
 have e2 := h.two
 have hc := h.core
 rw [List.drop_length] at e1 e2 hc
 rw [List.append_nil] at hc
 rw [hf, e1, e2]
 exact ⟨K, vh, vt, vs, vr, rid, ⟨hc.res, hc.rid, hc.hint, hc.tasks, hc.sent, hc.reps, hc.task, hc.nod, hc.own, hc.lt, hc.zero⟩, by simp [tickGo]⟩
set_option maxHeartbeats 4000000 in
theorem qtick_any (y : Nat) (F : Nat → Prop) (s : Rs) (k n : Nat) (w : World) (hR : RRs w F y s) (hs : RsOk s k n) (hn : n + 8 ≤ 33554432) (hk : k + 1 ≤ 1073741824) :
  Calls Tryz.prog 82 #[.pointer (some ⟨y, 0, none⟩)] w fun e w' => e = .returned (.tuple #[]) ∧ ∃ F', RRs w' F' y (tickS s) ∧ Keeps F w w' ∧ ∀ j, F' j → F j ∨ w.heap.size ≤ j := by
 obtain ⟨ps, vh, vt, vs, vr, rid, hC, hts⟩ := hR.ex
 obtain ⟨ta, tc, rfl⟩ := own_val' hC.tasks
 obtain ⟨i0, hi0, hz0, hz1, hz2⟩ := info_parts info217
 have hu161 := u161
 have h8 : ps.length ≤ 8 := by have := hs.tasks; rw [hts, List.length_map] at this; exact this
 have hY := hC.res
 have ly := hC.lt y hC.own.1
 have y7 : w.cell? ⟨y, 7, none⟩ = some (.int .i64 s.now) := by rw [cell_blk hY]; rfl
 have y10 : w.cell? ⟨y, 10, none⟩ = some (.slice ta ps.length tc) := by rw [cell_blk hY]; rfl
 have fy : ∀ k, w.frozen? ⟨y, k, none⟩ = false := fun k => frozen_of_row w y k _ 163 hY
 have hwr : IntKind.i64.wrap (s.now + 1) = s.now + 1 := by rw [IntKind.wrap_i64]; have := hs.now; omega
 obtain ⟨s1, hs1⟩ : ∃ s1 : Rs, s1 = { s with now := s.now + 1 } := ⟨_, rfl⟩
 have hs1ok : RsOk s1 (k + 1) n := by
  rw [hs1]
  exact ⟨hs.hs, hs.hint, hs.en, hs.tr, hs.pa, hs.mx, ⟨by have := hs.now.1; show 0 ≤ s.now + 1; omega, by have := hs.now.2; show s.now + 1 ≤ _; omega⟩, hs.nid, ⟨hs.asked.1, by have := hs.asked.2; show s.asked ≤ _; omega⟩, hs.sent, hs.replies, hs.tasks, fun t ht => (hs.task t ht).mono (Nat.le_succ _)⟩
 obtain ⟨W1, hW1⟩ : ∃ W1, w.setCell ⟨y, 7, none⟩ (.int .i64 (s.now + 1)) = W1 := ⟨_, rfl⟩
 have hK1 : Keeps (fun j => j = y) w W1 := by rw [← hW1]; exact (Keeps.refl (fun j => j = y) w).set (.inl rfl) 7 _
 have hC1 : RRc W1 F y s1 ps vh (.slice ta ps.length tc) vs vr rid := by
  refine hC.put hK1 ?_ (by rw [hs1]) (by rw [hs1]) (by rw [hs1]) (by rw [hs1])
  rw [← hW1, hs1]
  have := heap_setCell_same w y 7 _ 163 (.int .i64 (s.now + 1)) hY
  simpa using this
 have z1 : W1.heap.size = w.heap.size := by rw [← hW1]; simp
 have w10 : W1.cell? ⟨y, 10, none⟩ = some (.slice ta ps.length tc) := by rw [cell_blk hC1.res]; rfl
 have hKF : Keeps F w W1 := hK1.mono fun j e => e ▸ hC.own.1
 have HEND : Hid (∀ (l : Value) (W2 : World), W2.ownsRow w.heap.size 217 1 l ps.length ((ps.map tbOf).map fun b => Value.pointer (some ⟨b, 0, none⟩)) → W1.grownBy W2 none → QTick w W2 F y s1 ps l (k + 1) n 0 F s1 [] vh (.slice ta ps.length tc) vs vr rid) := by
  intro l W2 h1 h2
  have hb : Below W1.heap.size W1 W2 := ⟨h2.os, h2.tape, h2.output, h2.size, fun j hj => h2.block j hj (by simp)⟩
  refine ⟨?_, rfl, by simp, hs1ok, Nat.le_refl _, hKF.below hb, fun i hi => .inl hi, h1, fun i hi hf => ?_⟩
  ·rw [List.nil_append, List.drop_zero]
   exact hC1.same h2.size fun j hj => hb.block j (hC1.lt j hj)
  ·have := (h1.lt i hi).1
   have := hC.lt i hf
   omega
 have hrow := hC1.tasks
 rw [map_tb] at hrow
 have hpl : ((ps.map tbOf).map fun b => Value.pointer (some ⟨b, 0, none⟩) : List Value).length = ps.length * 1 := by simp
 have htok : ∀ p ∈ ps, TkOk p.2 (k + 1) := fun p hp => (hs.task p.2 (by rw [hts]; exact List.mem_map.2 ⟨p, hp, rfl⟩)).mono (Nat.le_succ _)
 have HT := hid htok
 have hfin : tickS s = { (tickGo s1 (ps.map (·.2))).1 with tasks := (tickGo s1 (ps.map (·.2))).2 } := by unfold tickS; rw [hs1, hts]
 have HFIN := hid hfin
 clear hfin htok hs1ok hC hC1 hR hY hs1 hts hK1 hKF
 go_enter Tryz.func82, Tryz.ntmps82
 rcases hrow.2 with ⟨hnil, h0⟩ | ⟨gt, cap, cur, hsl, _, hg, hnc, hcm, hcs, htake⟩
 ·simp only [Value.slice.injEq] at hnil
  obtain ⟨rfl, _, rfl⟩ := hnil
  have hps : ps = [] := List.eq_nil_of_length_eq_zero h0
  subst hps
  have hQ := hid (HEND.out (.slice none 0 0) W1 (World.ownsRow_nil _ _ _ _) (grown_refl _ _))
  go_wp2_with (first
   | (at_builtin; refine wpList_append_own_none rfl (.tmp 11) (.tmp 15) 161 rfl w.heap.size 217 i0 1 hu161 hi0 _ 0 [] rfl (World.ownsRow_nil _ _ _ _) rfl ?_))
  refine wp_loop_rounds 1 ?_
  rw [rounds_succ]
  go_wp2
  go_end0
  exact ⟨rfl, F, qtick_end (ps := []) HFIN.out hQ.out, hQ.out.keeps, hQ.out.new⟩
 ·simp only [Value.slice.injEq] at hsl
  obtain ⟨rfl, _, rfl⟩ := hsl
  have hcell : Hid (∀ j u, ((ps.map tbOf).map fun b => Value.pointer (some ⟨b, 0, none⟩) : List Value)[j]? = some u → W1.cell? ((⟨gt, 0, none⟩ : Addr).add j) = some u) := fun j u hu => hrow.cells (g := gt) rfl j u hu
  have hone : ∀ u ∈ ((ps.map tbOf).map fun b => Value.pointer (some ⟨b, 0, none⟩) : List Value), u.oneCell' = true := by
   intro u hu
   obtain ⟨b, _, rfl⟩ := List.mem_map.1 hu
   rfl
  have h63 : 0 + ps.length ≤ maxLen := by unfold maxLen; omega
  have hby : (0 + ps.length) * 8 ≤ 140737488355328 := by omega
  have hsz : w.heap.size ≤ W1.heap.size := by omega
  have HONE := hid hone
  clear hg hcs htake hrow hone z1
  go_wp2_with (first
   | (at_builtin; (try rw [hW1]); refine wpList_append_own _ rfl (.tmp 11) (.tmp 15) 161 rfl w.heap.size 217 i0 (.pointer none) 1 8 hu161 hi0 hz0 hz1 hz2 rfl (by decide) _ 0 [] rfl (World.ownsRow_nil _ _ _ _) _ _ _ ((ps.map tbOf).map fun b => Value.pointer (some ⟨b, 0, none⟩)) rfl hpl hcell.out HONE.out h63 hby hsz ?_))
  intro l W2 h1 h2 _
  have h1' : W2.ownsRow w.heap.size 217 1 l ps.length ((ps.map tbOf).map fun b => Value.pointer (some ⟨b, 0, none⟩)) := by simpa using h1
  have hQ0 := HEND.out l W2 h1' h2
  clear h1 h2 HEND
  obtain ⟨la, lc, rfl⟩ := own_val' h1'
  by_cases hps : ps.length = 0
  ·obtain rfl : ps = [] := List.eq_nil_of_length_eq_zero hps
   go_wp2
   refine wp_loop_rounds 1 ?_
   rw [rounds_succ]
   go_wp2
   go_end0
   exact ⟨rfl, F, qtick_end (ps := []) HFIN.out hQ0, hQ0.keeps, hQ0.new⟩
  obtain ⟨gl, rfl⟩ : ∃ gl, la = some ⟨gl, 0, none⟩ := by
   rcases h1'.2 with ⟨_, h0⟩ | ⟨g, _, _, h1, _⟩
   ·exact absurd h0 hps
   ·simp only [Value.slice.injEq] at h1
    exact ⟨g, h1.1⟩
  clear h1'
  go_wp2
  go_loopw [3] (fun iv wr => ∃ (j : Nat) (F' : Nat → Prop) (s' : Rs) (K : List (Rb × Tk)) (vt' vs' vr' : Value) (rid' : Int), j ≤ ps.length ∧ iv = .int .i64 j ∧ QTick w wr F y s1 ps (.slice (some ⟨gl, 0, none⟩) ps.length lc) (k + 1) n j F' s' K vh vt' vs' vr' rid') (fun iv _ => ps.length - (intOf iv).toNat)
  case atStart => exact ⟨0, F, s1, [], _, _, _, _, Nat.zero_le _, rfl, hQ0⟩
  case round =>
   obtain ⟨j, F', s', K, vt', vs', vr', rid', hj, rfl, hQ⟩ := hrel
   by_cases hlt : j < ps.length
   ·obtain ⟨⟨b, t⟩, hp⟩ : ∃ p, ps[j]? = some p := ⟨ps[j], List.getElem?_eq_getElem hlt⟩
    have ht : TkOk t (k + 1) := HT.out (b, t) (List.mem_of_getElem? hp)
    have hcore := hQ.core
    rw [drop_at hp] at hcore
    have c7 : wr.cell? ⟨y, 7, none⟩ = some (.int .i64 s'.now) := by rw [cell_blk hcore.res]; rfl
    have c3 : wr.cell? ⟨y, 3, none⟩ = some (.int .i64 s'.pa) := by rw [cell_blk hcore.res]; rfl
    have cl : wr.cell? ⟨gl, j, none⟩ = some (.pointer (some ⟨b.tb, 0, none⟩)) := own_cell hQ.copy (by rw [List.getElem?_map, List.getElem?_map, hp]; rfl)
    have ct : wr.cell? ⟨b.tb, 13, none⟩ = some (.int .i64 t.at_) := by
     obtain ⟨_, _, _, _, _, _, _, _, _, _, _, _, q⟩ := (hcore.task (b, t) (List.mem_append_right _ List.mem_cons_self)).task
     rw [cell_blk q]; rfl
    have hw : IntKind.i64.wrap (s'.now - t.at_) = s'.now - t.at_ := by rw [IntKind.wrap_i64]; have := hQ.ok.now; have := ht.at_; omega
    have HP := hid hp
    have hcap : ps.length ≤ lc := by
     rcases hQ.copy.2 with ⟨h1, _⟩ | ⟨_, _, _, h1, _, _, h2, _⟩
     ·cases h1
     ·simp only [Value.slice.injEq] at h1; omega
    clear hcore hp
    by_cases hov : s'.pa ≤ s'.now - t.at_
    ·have HC := hid (fun m => hQ.work HP.out ht hov hn h8 m)
     have hd : decide (s'.now - t.at_ ≥ s'.pa) = true := by simpa using hov
     clear hQ
     go_wp2
     go_quiet (fail)
     go_wp2_with (go_at_call 129; refine (HC.out _).mono ?_; rintro e w1 ⟨rfl, F2, s2, K2, vt2, vs2, vr2, rid2, hQ2⟩)
     go_roundw
     case rel => exact ⟨j + 1, F2, s2, K2, vt2, vs2, vr2, rid2, hlt, by go_num, hQ2⟩
     case measure => simp [intOf]; omega
    ·have HC := hid (fun m => hQ.skip HP.out hov m)
     have hd : decide (s'.now - t.at_ ≥ s'.pa) = false := by simp; omega
     clear hQ
     go_wp2
     go_quiet (fail)
     go_wp2
     go_roundw
     case rel => exact ⟨j + 1, F', s', K ++ [(b, t)], vt', vs', vr', rid', hlt, by go_num, HC.out _⟩
     case measure => simp [intOf]; omega
   ·obtain rfl : j = ps.length := by omega
    have HQ := hid hQ
    clear hQ
    go_wp2
    go_end0
    exact ⟨rfl, F', qtick_end HFIN.out HQ.out, HQ.out.keeps, HQ.out.new⟩
end Go.Proofs.YtefdokkadckbbaaGreatDoor
end
section
namespace Go.Proofs.YtefdokkadckbbaaGreatDoor
open Go.RowKit
set_option maxRecDepth 100000
abbrev baseOk (hs : List Int) (en tr pa mx : Int) : Prop := (1 : Int) ≤ (hs.length : Int) ∧ (hs.length : Int) ≤ 3 ∧ 4 ≤ en ∧ en ≤ 64 ∧ 1 ≤ tr ∧ tr ≤ 3 ∧ 1 ≤ pa ∧ pa ≤ 20 ∧ 1 ≤ mx ∧ mx ≤ 1000
theorem qcells5 {W : World} {b : Nat} {t : TypeId} {v0 v1 v2 v3 v4 : Value} (h : W.heap[b]? = some (.cells #[v0, v1, v2, v3, v4] t (0, 0))) :
  W.cell? ⟨b, 0, none⟩ = some v0 ∧ W.cell? ⟨b, 1, none⟩ = some v1 ∧ W.cell? ⟨b, 2, none⟩ = some v2 ∧ W.cell? ⟨b, 3, none⟩ = some v3 ∧ W.cell? ⟨b, 4, none⟩ = some v4 := by
 refine ⟨?_, ?_, ?_, ?_, ?_⟩ <;> (rw [cell_blk h]; rfl)
def addrOk (a : Int) : Bool := decide (0 ≤ a) && decide (a ≤ 255)
theorem cfg_eq (hs : List Int) (en tr pa mx : Int) : cfgOk hs en tr pa mx = (decide (baseOk hs en tr pa mx) && hs.all addrOk) := by
 have e : (hs.all fun a => decide (0 ≤ a) && decide (a ≤ 255)) = hs.all addrOk := rfl
 unfold cfgOk hintsOk
 rw [e]
 rw [Bool.eq_iff_iff]
 simp only [Bool.and_eq_true, decide_eq_true_eq]
 unfold baseOk
 constructor
 ·rintro ⟨⟨⟨⟨⟨⟨h1, h2⟩, h3⟩, h4, h5⟩, h6, h7⟩, h8, h9⟩, h10, h11⟩
  exact ⟨⟨by omega, by omega, h4, h5, h6, h7, h8, h9, h10, h11⟩, h3⟩
 ·rintro ⟨⟨h1, h2, h4, h5, h6, h7, h8, h9, h10, h11⟩, h3⟩
  exact ⟨⟨⟨⟨⟨⟨by omega, by omega⟩, h3⟩, h4, h5⟩, h6, h7⟩, h8, h9⟩, h10, h11⟩
theorem all_step {hs : List Int} {k : Nat} {x : Int} (h : hs[k]? = some x) (B : Bool) : (B && (hs.take (k + 1)).all addrOk) = ((B && (hs.take k).all addrOk) && addrOk x) := by
 rw [List.take_add_one, h]
 simp [List.all_append, Bool.and_assoc]
theorem hints_step {W wr w2 : World} {o : Obj} {v v' : Value} {hs : List Int} {k : Nat} {x : Int} (hx : hs[k]? = some x) (hown : wr.ownsRow W.heap.size 3 1 v k (icells (hs.take k))) (hb : Below W.heap.size W wr)
  (hown' : w2.ownsRow W.heap.size 3 1 v' (k + 1) (icells (hs.take k) ++ [.int .i64 x])) (hg : (wr.alloc o).grownBy w2 v.ownBlock) :
  w2.ownsRow W.heap.size 3 1 v' (k + 1) (icells (hs.take (k + 1))) ∧ Below W.heap.size W w2 := by
 have e : hs.take (k + 1) = hs.take k ++ [x] := by rw [List.take_add_one, hx]; rfl
 refine ⟨?_, (hb.alloc hb.size o).grown hg (by have := hb.size; simp; omega) fun k e => (hown.lt k e).1⟩
 rw [e]
 simpa [icells] using hown'
theorem qnew_end {w W0 wr : World} {hs : List Int} {en tr pa mx : Int} {la : Option Addr} {lc : Nat} (hown : wr.ownsRow W0.heap.size 3 1 (.slice la hs.length lc) hs.length (icells hs)) (hb : Below W0.heap.size W0 wr) (hBw : Below w.heap.size w wr) (hwz : w.heap.size < W0.heap.size) :
  Below w.heap.size w ((wr.setCell ⟨w.heap.size, 0, none⟩ (.slice la hs.length lc)).alloc (.cells #[.slice la hs.length lc, .int .i64 en, .int .i64 tr, .int .i64 pa, .int .i64 mx, .slice none 0 0, .int .i64 0, .int .i64 0, .int .i64 0, .int .i64 0, .slice none 0 0, .slice none 0 0, .slice none 0 0] 163)) ∧
  (RRs ((wr.setCell ⟨w.heap.size, 0, none⟩ (.slice la hs.length lc)).alloc (.cells #[.slice la hs.length lc, .int .i64 en, .int .i64 tr, .int .i64 pa, .int .i64 mx, .slice none 0 0, .int .i64 0, .int .i64 0, .int .i64 0, .int .i64 0, .slice none 0 0, .slice none 0 0, .slice none 0 0] 163)) (fun k => k = wr.heap.size ∨ (Value.slice la hs.length lc).ownBlock = some k) wr.heap.size (newRs hs en tr pa mx) ∧ ∀ j, (j = wr.heap.size ∨ (Value.slice la hs.length lc).ownBlock = some j) → w.heap.size ≤ j) := by
 have hz := hb.size
 obtain ⟨V, hV⟩ : ∃ V, wr.setCell ⟨w.heap.size, 0, none⟩ (.slice la hs.length lc) = V := ⟨_, rfl⟩
 have sV : V.heap.size = wr.heap.size := by rw [← hV]; simp
 have hBV : Below w.heap.size w V := by rw [← hV]; exact hBw.set (Nat.le_refl _) 0 _
 have hoV : V.ownsRow W0.heap.size 3 1 (.slice la hs.length lc) hs.length (icells hs) := own_same hown fun k e => by
  rw [← hV]
  exact Below.heap_setCell _ _ _ _ (by have := (hown.lt k e).1; simp; omega)
 rw [hV]
 obtain ⟨O, hO⟩ : ∃ O, Obj.cells #[.slice la hs.length lc, .int .i64 en, .int .i64 tr, .int .i64 pa, .int .i64 mx, .slice none 0 0, .int .i64 0, .int .i64 0, .int .i64 0, .int .i64 0, .slice none 0 0, .slice none 0 0, .slice none 0 0] 163 = O := ⟨_, rfl⟩
 have hy : (V.alloc O).heap[wr.heap.size]? = some O := by rw [← sV]; exact World.alloc_heap_new V O
 have hrow : (V.alloc O).ownsRow W0.heap.size 3 1 (.slice la hs.length lc) hs.length (icells hs) := hoV.alloc O
 have hlow : ∀ j, (j = wr.heap.size ∨ (Value.slice la hs.length lc).ownBlock = some j) → w.heap.size ≤ j := by
  rintro j (rfl | h)
  ·exact hBw.size
  ·have := (hown.lt j h).1; omega
 rw [hO]
 refine ⟨hBV.alloc hBV.size O, ⟨[], .slice la hs.length lc, .slice none 0 0, .slice none 0 0, .slice none 0 0, 0, ⟨by rw [hy, ← hO]; rfl, ⟨rfl, Int.le_refl _, show (0 : Int) ≤ 65535 by decide⟩, own_low hrow (Nat.zero_le _), World.ownsRow_nil _ _ _ _, World.ownsRow_nil _ _ _ _, World.ownsRow_nil _ _ _ _, fun p hp => (by cases hp), ⟨List.nodup_nil, List.nodup_nil, List.Pairwise.nil⟩, ⟨.inl rfl, fun k e => .inr e, fun k e => (by simp [Value.ownBlock] at e), fun k e => (by simp [Value.ownBlock] at e), fun k e => (by simp [Value.ownBlock] at e), fun p hp => (by cases hp)⟩, ?_, ?_⟩, rfl⟩, hlow⟩
 ·rintro k (rfl | h)
  ·exact (Array.getElem?_eq_some_iff.1 hy).1
  ·exact (hrow.lt k h).2
 ·intro h0
  have := hlow 0 h0
  rcases h0 with h0 | h0
  ·omega
  ·have := (hown.lt 0 h0).1; omega
set_option maxHeartbeats 4000000 in
theorem qnew_any (v : Value) (hs : List Int) (en tr pa mx : Int) (w : World) (hv : NumSl w v hs) (hl : hs.length ≤ 33554432) :
  Calls Tryz.prog 72 #[.agg #[v, .int .i64 en, .int .i64 tr, .int .i64 pa, .int .i64 mx]] w fun e w' => Below w.heap.size w w' ∧ (cfgOk hs en tr pa mx = false → e = .returned (.tuple #[.pointer none, .int .i64 1])) ∧
   (cfgOk hs en tr pa mx = true → ∃ y F, e = .returned (.tuple #[.pointer (some ⟨y, 0, none⟩), .int .i64 0]) ∧ RRs w' F y (newRs hs en tr pa mx) ∧ ∀ j, F j → w.heap.size ≤ j) := by
 obtain ⟨a, c, rfl, hv⟩ := hv
 obtain ⟨i0, hi0, hz0, hz1, hz2⟩ := info_parts info3
 have hu28 := u28
 rw [cfg_eq]
 obtain ⟨B, hB⟩ : ∃ B, decide (baseOk hs en tr pa mx) = B := ⟨_, rfl⟩
 rw [hB]
 have HBB := hid hB
 clear hB
 obtain ⟨W0, hW0⟩ : ∃ W0, w.alloc (.cells #[.slice a hs.length c, .int .i64 en, .int .i64 tr, .int .i64 pa, .int .i64 mx] 30) = W0 := ⟨_, rfl⟩
 have hb0 : Below w.heap.size w W0 := by rw [← hW0]; exact (Below.refl _ _).alloc (Nat.le_refl _) _
 have z0 : W0.heap.size = w.heap.size + 1 := by rw [← hW0]; simp
 have e0 : W0.heap[w.heap.size]? = some (.cells #[.slice a hs.length c, .int .i64 en, .int .i64 tr, .int .i64 pa, .int .i64 mx] 30 (0, 0)) := by rw [← hW0]; exact World.alloc_heap_new w _
 have HC5 : Hid (∀ wr, Below W0.heap.size W0 wr → wr.heap[w.heap.size]? = some (.cells #[.slice a hs.length c, .int .i64 en, .int .i64 tr, .int .i64 pa, .int .i64 mx] 30 (0, 0))) := fun wr hb => (hb.block _ (by omega)).trans e0
 obtain ⟨c0, c1, c2, c3, c4⟩ := qcells5 e0
 have HCELL : Hid (∀ k x, hs[k]? = some x → ∃ g o, a = some ⟨g, o, none⟩ ∧ g < W0.heap.size ∧ hs.length ≤ c ∧ W0.cell? ⟨g, o + k, none⟩ = some (.int .i64 x)) := by
  intro k x hx
  rcases hv with rfl | ⟨g, o, rfl, h1, h2, h3⟩
  ·simp at hx
  ·exact ⟨g, o, rfl, by omega, h2, (hb0.cell (p := ⟨g, o + k, none⟩) h1).trans (h3 k x hx)⟩
 have hwz : w.heap.size < W0.heap.size := by omega
 have HB0 := hid hb0
 clear hv e0 z0 hb0
 go_enter Tryz.func72, Tryz.ntmps72
 go_upto_region 1 with fail
 clear hW0
 go_cut [4] (fun x wx => x = .bool B ∧ W0 = wx)
 case first =>
  by_cases q0 : (1 : Int) ≤ (hs.length : Int)
  ·by_cases q1 : (hs.length : Int) ≤ 3
   ·by_cases q2 : 4 ≤ en
    ·by_cases q3 : en ≤ 64
     ·by_cases q4 : 1 ≤ tr
      ·by_cases q5 : tr ≤ 3
       ·by_cases q6 : 1 ≤ pa
        ·by_cases q7 : pa ≤ 20
         ·by_cases q8 : 1 ≤ mx
          ·by_cases q9 : mx ≤ 1000
           ·go_wp2
            go_meet
            exact ⟨congrArg Value.bool ((decide_eq_true (by unfold baseOk; omega)).symm.trans HBB.out), rfl⟩
           ·go_wp2
            go_meet
            exact ⟨congrArg Value.bool ((decide_eq_false (by unfold baseOk; omega)).symm.trans HBB.out), rfl⟩
          ·go_wp2
           go_meet
           exact ⟨congrArg Value.bool ((decide_eq_false (by unfold baseOk; omega)).symm.trans HBB.out), rfl⟩
         ·go_wp2
          go_meet
          exact ⟨congrArg Value.bool ((decide_eq_false (by unfold baseOk; omega)).symm.trans HBB.out), rfl⟩
        ·go_wp2
         go_meet
         exact ⟨congrArg Value.bool ((decide_eq_false (by unfold baseOk; omega)).symm.trans HBB.out), rfl⟩
       ·go_wp2
        go_meet
        exact ⟨congrArg Value.bool ((decide_eq_false (by unfold baseOk; omega)).symm.trans HBB.out), rfl⟩
      ·go_wp2
       go_meet
       exact ⟨congrArg Value.bool ((decide_eq_false (by unfold baseOk; omega)).symm.trans HBB.out), rfl⟩
     ·go_wp2
      go_meet
      exact ⟨congrArg Value.bool ((decide_eq_false (by unfold baseOk; omega)).symm.trans HBB.out), rfl⟩
    ·go_wp2
     go_meet
     exact ⟨congrArg Value.bool ((decide_eq_false (by unfold baseOk; omega)).symm.trans HBB.out), rfl⟩
   ·go_wp2
    go_meet
    exact ⟨congrArg Value.bool ((decide_eq_false (by unfold baseOk; omega)).symm.trans HBB.out), rfl⟩
  ·go_wp2
   go_meet
   exact ⟨congrArg Value.bool ((decide_eq_false (by unfold baseOk; omega)).symm.trans HBB.out), rfl⟩
 case rest =>
  obtain ⟨rfl, rfl⟩ := hcut
  clear c1 c2 c3 c4
  go_wp2
  go_loopw [4, 5, 6] (fun ok l i wr => ∃ k : Nat, k ≤ hs.length ∧ i = .int .i64 k ∧ ok = .bool (B && (hs.take k).all addrOk) ∧ wr.ownsRow W0.heap.size 3 1 l k (icells (hs.take k)) ∧ Below W0.heap.size W0 wr) (fun _ _ i _ => hs.length - (intOf i).toNat)
  case atStart => exact ⟨0, Nat.zero_le _, rfl, by simp, World.ownsRow_nil _ _ _ _, Below.refl _ _⟩
  case round =>
   obtain ⟨k, hk, rfl, rfl, hown, hb⟩ := hrel
   have d0 : wr.cell? ⟨w.heap.size, 0, none⟩ = some (.slice a hs.length c) := (qcells5 (HC5.out wr hb)).1
   by_cases hlt : k < hs.length
   ·obtain ⟨x, hx⟩ : ∃ x, hs[k]? = some x := ⟨hs[k], List.getElem?_eq_getElem hlt⟩
    obtain ⟨g, o, rfl, lg, hcc, hcx0⟩ := HCELL.out k x hx
    have hcx : wr.cell? ⟨g, o + k, none⟩ = some (.int .i64 x) := (hb.cell (p := ⟨g, o + k, none⟩) lg).trans hcx0
    have HX := hid hx
    have hln : k ≤ 33554432 := by omega
    have HALL0 := hid (all_step hx B)
    obtain ⟨C, hC⟩ : ∃ C, (B && (hs.take k).all addrOk) = C := ⟨_, rfl⟩
    rw [hC] at HALL0 ⊢
    clear hx hcx0 hC
    cases C with
    | false =>
     have HALL : Hid ((B && (hs.take (k + 1)).all addrOk) = false) := by rw [HALL0.out]; rfl
     clear HALL0
     go_wp2_with (first
      | (at_builtin; refine wpList_append_own _ rfl _ _ 28 rfl W0.heap.size 3 i0 (.int .i64 0) 1 8 hu28 hi0 hz0 hz1 hz2 rfl (by decide) _ _ _ rfl (hown.alloc _) ⟨wr.heap.size, 0, none⟩ 1 1 [.int .i64 x] rfl rfl (World.news_of_block (Go.heap_alloc_new _ _)) (by intro u hu; simp at hu; subst hu; rfl) (by unfold maxLen; omega) (by omega) (by have := hb.size; simp; omega) ?_))
     intro v' w2 hown' hgrow _
     have R2 := hints_step HX.out hown hb hown' hgrow
     clear hown' hgrow hown
     go_wp2
     go_roundw
     case rel => exact ⟨k + 1, hlt, by go_num, by rw [HALL.out], R2.1, R2.2⟩
     case measure => simp [intOf]; omega
    | true =>
     by_cases h0 : 0 ≤ x
     ·by_cases h2 : x ≤ 255
      ·have HALL : Hid ((B && (hs.take (k + 1)).all addrOk) = true) := by rw [HALL0.out]; unfold addrOk; rw [decide_eq_true h0, decide_eq_true h2]; rfl
       clear HALL0
       go_wp2_with (first
        | (at_builtin; refine wpList_append_own _ rfl _ _ 28 rfl W0.heap.size 3 i0 (.int .i64 0) 1 8 hu28 hi0 hz0 hz1 hz2 rfl (by decide) _ _ _ rfl (hown.alloc _) ⟨wr.heap.size, 0, none⟩ 1 1 [.int .i64 x] rfl rfl (World.news_of_block (Go.heap_alloc_new _ _)) (by intro u hu; simp at hu; subst hu; rfl) (by unfold maxLen; omega) (by omega) (by have := hb.size; simp; omega) ?_))
       intro v' w2 hown' hgrow _
       have R2 := hints_step HX.out hown hb hown' hgrow
       clear hown' hgrow hown
       go_wp2
       go_roundw
       case rel => exact ⟨k + 1, hlt, by go_num, by rw [HALL.out], R2.1, R2.2⟩
       case measure => simp [intOf]; omega
      ·have HALL : Hid ((B && (hs.take (k + 1)).all addrOk) = false) := by rw [HALL0.out]; unfold addrOk; rw [decide_eq_true h0, decide_eq_false h2]; rfl
       have hd2 := decide_eq_false h2
       clear HALL0
       go_wp2_with (first
        | (at_builtin; refine wpList_append_own _ rfl _ _ 28 rfl W0.heap.size 3 i0 (.int .i64 0) 1 8 hu28 hi0 hz0 hz1 hz2 rfl (by decide) _ _ _ rfl (hown.alloc _) ⟨wr.heap.size, 0, none⟩ 1 1 [.int .i64 x] rfl rfl (World.news_of_block (Go.heap_alloc_new _ _)) (by intro u hu; simp at hu; subst hu; rfl) (by unfold maxLen; omega) (by omega) (by have := hb.size; simp; omega) ?_))
       intro v' w2 hown' hgrow _
       have R2 := hints_step HX.out hown hb hown' hgrow
       clear hown' hgrow hown
       go_wp2
       go_roundw
       case rel => exact ⟨k + 1, hlt, by go_num, by rw [HALL.out], R2.1, R2.2⟩
       case measure => simp [intOf]; omega
     ·have HALL : Hid ((B && (hs.take (k + 1)).all addrOk) = false) := by rw [HALL0.out]; unfold addrOk; rw [decide_eq_false h0]; rfl
      have hd0 := decide_eq_false h0
      clear HALL0
      go_wp2_with (first
       | (at_builtin; refine wpList_append_own _ rfl _ _ 28 rfl W0.heap.size 3 i0 (.int .i64 0) 1 8 hu28 hi0 hz0 hz1 hz2 rfl (by decide) _ _ _ rfl (hown.alloc _) ⟨wr.heap.size, 0, none⟩ 1 1 [.int .i64 x] rfl rfl (World.news_of_block (Go.heap_alloc_new _ _)) (by intro u hu; simp at hu; subst hu; rfl) (by unfold maxLen; omega) (by omega) (by have := hb.size; simp; omega) ?_))
      intro v' w2 hown' hgrow _
      have R2 := hints_step HX.out hown hb hown' hgrow
      clear hown' hgrow hown
      go_wp2
      go_roundw
      case rel => exact ⟨k + 1, hlt, by go_num, by rw [HALL.out], R2.1, R2.2⟩
      case measure => simp [intOf]; omega
   ·obtain rfl : k = hs.length := by omega
    rw [List.take_length] at hown ⊢
    have hBw : Below w.heap.size w wr := HB0.out.trans (hb.mono (by omega))
    cases hC : (B && hs.all addrOk) with
    | false =>
     clear hown
     go_wp2
     go_ret2
     exact ⟨hBw, fun _ => rfl, fun h => by rw [hC] at h; cases h⟩
    | true =>
     have e5 := HC5.out wr hb
     obtain ⟨d0, d1, d2, d3, d4⟩ := qcells5 e5
     have df : ∀ k, wr.frozen? ⟨w.heap.size, k, none⟩ = false := fun k => frozen_of_row wr _ k _ 30 e5
     obtain ⟨la, lc, rfl⟩ := own_val' hown
     have HQ := hid (qnew_end (en := en) (tr := tr) (pa := pa) (mx := mx) hown hb hBw hwz)
     clear hown
     go_wp2
     go_ret2
     exact ⟨HQ.out.1, fun h => (by rw [hC] at h; cases h), fun _ => ⟨_, _, rfl, HQ.out.2⟩⟩
set_option maxHeartbeats 1000000 in
theorem qentries_none (y : Nat) (w : World) (h : w.cell? ⟨y, 5, none⟩ = some (.slice none 0 0)) :
  Calls Tryz.prog 86 #[.pointer (some ⟨y, 0, none⟩)] w fun e w' => e = .returned (.slice none 0 0) ∧ w' = w := by
 go_enter Tryz.func86, Tryz.ntmps86
 go_wp2
 refine wp_loop_rounds 1 ?_
 rw [rounds_succ]
 go_wp2
 refine wp_loop_rounds 1 ?_
 rw [rounds_succ]
 go_wp2
 go_ret
 exact ⟨rfl, rfl⟩
end Go.Proofs.YtefdokkadckbbaaGreatDoor
end
