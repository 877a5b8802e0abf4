/- Qe Qf -/
import Derived.Test.YtefdokkadckbbaaGreatDoorZ38
section
namespace Go.Proofs.YtefdokkadckbbaaGreatDoor
open Go.RowKit
set_option maxRecDepth 100000
def RepR (F : Nat → Prop) (w w' : World) (y tb : Nat) (mk : Value → Value → Obj) (tbs : List Nat) (vr : Value) (R' : List (Int × ByteArray)) : Prop :=
 ∃ vt' g c, w'.heap[y]? = some (mk vt' (.slice (some ⟨g, 0, none⟩) R'.length c)) ∧ w'.ownsRow 0 66 2 (.slice (some ⟨g, 0, none⟩) R'.length c) R'.length (pcells R') ∧
  w'.ownsRow w.heap.size 217 1 vt' (others tb tbs).length ((others tb tbs).map fun b => Value.pointer (some ⟨b, 0, none⟩)) ∧ Keeps F w w' ∧ (vr.ownBlock = some g ∨ w.heap.size ≤ g)
theorem RepR.after {F G H : Nat → Prop} {w0 w w' : World} {y tb : Nat} {mk : Value → Value → Obj} {tbs : List Nat} {vr : Value} {R' : List (Int × ByteArray)} (h : RepR F w w' y tb mk tbs vr R') (hk : Keeps G w0 w) (hF : ∀ k, F k → H k ∨ w0.heap.size ≤ k) (hG : ∀ k, G k → H k) : RepR H w0 w' y tb mk tbs vr R' := by
 obtain ⟨vt', g, c, h1, h2, h3, h4, h5⟩ := h
 refine ⟨vt', g, c, h1, h2, own_low h3 hk.size, (hk.mono hG).then h4 hF, ?_⟩
 rcases h5 with h | h
 ·exact .inl h
 ·exact .inr (Nat.le_trans hk.size h)
theorem rreply_rep (y tb : Nat) (vh vs va vs' vm gs : Value) (en tr pa mx now rid asked num id code : Int) (nm : ByteArray) (ty sends wi wa at_ : Int) (wn : ByteArray) (wt : Int) (wz : ByteArray) (ta ra : Option Addr) (tc rc : Nat) (tbs : List Nat) (R : List (Int × ByteArray)) (w : World)
  (hy : w.heap[y]? = some (rresO vh en tr pa mx now rid asked (.slice ta tbs.length tc) vs (.slice ra R.length rc)))
  (ht : w.heap[tb]? = some (rtaskO num id nm ty va vs' vm gs sends wi wa at_ wn wt wz))
  (htk : w.ownsRow 0 217 1 (.slice ta tbs.length tc) tbs.length (tbs.map fun b => Value.pointer (some ⟨b, 0, none⟩))) (hr : w.ownsRow 0 66 2 (.slice ra R.length rc) R.length (pcells R)) (hnm : nm.size ≤ 1048576) (hR : R.length ≤ 33554432) (h8 : tbs.length ≤ 8) (hbs : ∀ b ∈ tbs, ∃ c, w.heap[b]? = some (.cells c 220 (0, 0))) :
  Calls Tryz.prog 128 #[.pointer (some ⟨y, 0, none⟩), .pointer (some ⟨tb, 0, none⟩), .int .i64 code, .slice none 0 0] w fun e w' => e = .returned (.tuple #[]) ∧ RepR (fun k => k = y ∨ (Value.slice ra R.length rc).ownBlock = some k) w w' y tb (fun vt' vr' => rresO vh en tr pa mx now rid asked vt' vs vr') tbs (.slice ra R.length rc) (R ++ [(num, rB id code nm ty)]) := by
 refine (rreply_any y tb vh vs va vs' vm gs en tr pa mx now rid asked num id code nm ty sends wi wa at_ wn wt wz ta ra tc rc tbs R w hy ht htk hr hnm hR h8 hbs).mono ?_
 rintro e w' ⟨rfl, vt', g, c, h1, h2, h3, h4, h5⟩
 refine ⟨rfl, vt', g, c, ?_⟩
 rw [List.length_append, List.length_cons, List.length_nil, Nat.zero_add]
 exact ⟨h1, h2, h3, h4, h5⟩
set_option maxHeartbeats 4000000 in
theorem rends_failed (y tb : Nat) (vh vs va vs' vm : Value) (ga : Option Addr) (gc : Nat) (en tr pa mx now rid asked num id : Int) (nm : ByteArray) (ty sends wi wa at_ : Int) (wn : ByteArray) (wt : Int) (wz : ByteArray) (ta ra : Option Addr) (tc rc : Nat) (tbs : List Nat) (R : List (Int × ByteArray)) (w : World)
  (hy : w.heap[y]? = some (rresO vh en tr pa mx now rid asked (.slice ta tbs.length tc) vs (.slice ra R.length rc)))
  (ht : w.heap[tb]? = some (rtaskO num id nm ty va vs' vm (.slice ga 1 gc) sends wi wa at_ wn wt wz))
  (htk : w.ownsRow 0 217 1 (.slice ta tbs.length tc) tbs.length (tbs.map fun b => Value.pointer (some ⟨b, 0, none⟩))) (hr : w.ownsRow 0 66 2 (.slice ra R.length rc) R.length (pcells R)) (hnm : nm.size ≤ 1048576) (hR : R.length ≤ 33554432) (h8 : tbs.length ≤ 8) (hbs : ∀ b ∈ tbs, ∃ c, w.heap[b]? = some (.cells c 220 (0, 0))) :
  Calls Tryz.prog 165 #[.pointer (some ⟨y, 0, none⟩), .pointer (some ⟨tb, 0, none⟩), .int .i64 2, .slice none 0 0, .int .i64 0] w fun e w' => e = .returned (.bool false) ∧ RepR (fun k => k = y ∨ (Value.slice ra R.length rc).ownBlock = some k) w w' y tb (fun vt' vr' => rresO vh en tr pa mx now rid asked vt' vs vr') tbs (.slice ra R.length rc) (R ++ [(num, rB id 2 nm ty)]) := by
 have hC := hid (rreply_rep y tb vh vs va vs' vm (.slice ga 1 gc) en tr pa mx now rid asked num id 2 nm ty sends wi wa at_ wn wt wz ta ra tc rc tbs R w hy ht htk hr hnm hR h8 hbs)
 have c9 : w.cell? ⟨tb, 9, none⟩ = some (.slice ga 1 gc) := by rw [cell_blk ht]; rfl
 clear hbs hy ht htk hr
 go_enter Tryz.func165, Tryz.ntmps165
 go_wp2_with (go_at_call 128; refine hC.out.mono ?_; rintro e w1 ⟨rfl, h1⟩)
 go_ret
 exact ⟨rfl, h1⟩
set_option maxHeartbeats 4000000 in
theorem rtries_stop (y tb g : Nat) (vh vs va vs' vm gs : Value) (en tr pa mx now rid asked num id : Int) (nm : ByteArray) (ty sends wi wa at_ : Int) (wn : ByteArray) (wt : Int) (wz : ByteArray) (av ta ra : Option Addr) (cv tc rc : Nat) (tbs : List Nat) (R : List (Int × ByteArray)) (L : List (Int × Int)) (a : Int) (w : World)
  (hy : w.heap[y]? = some (rresO vh en tr pa mx now rid asked (.slice ta tbs.length tc) vs (.slice ra R.length rc))) (ht : w.heap[tb]? = some (rtaskO num id nm ty va vs' vm gs sends wi wa at_ wn wt wz)) (hg : w.heap[g]? = some (rgoalO nm ty (.slice av L.length cv)))
  (hv : w.ownsRow 0 386 4 (.slice av L.length cv) L.length (tcells nm L)) (htk : w.ownsRow 0 217 1 (.slice ta tbs.length tc) tbs.length (tbs.map fun b => Value.pointer (some ⟨b, 0, none⟩))) (hr : w.ownsRow 0 66 2 (.slice ra R.length rc) R.length (pcells R))
  (hnm : nm.size ≤ 1048576) (hR : R.length ≤ 33554432) (h8 : tbs.length ≤ 8) (hbs : ∀ b ∈ tbs, ∃ c, w.heap[b]? = some (.cells c 220 (0, 0))) (hL : L.length ≤ 1000) (hsd : 16 ≤ sends) (hc : cntOf L a < tr) :
  Calls Tryz.prog 235 #[.pointer (some ⟨y, 0, none⟩), .pointer (some ⟨tb, 0, none⟩), .pointer (some ⟨g, 0, none⟩), .string ⟨#[]⟩, .string ⟨#[]⟩, .int .i64 a] w fun e w' => e = .returned (.bool true) ∧ RepR (fun k => k = y ∨ k = g ∨ (Value.slice av L.length cv).ownBlock = some k ∨ (Value.slice ra R.length rc).ownBlock = some k) w w' y tb (fun vt' vr' => rresO vh en tr pa mx now rid asked vt' vs vr') tbs (.slice ra R.length rc) (R ++ [(num, rB id 2 nm ty)]) := by
 have hT := hid (times_any g nm ty a av cv L w hg hv (by omega))
 have HX : Hid (∀ w1 i, TimesR g nm ty (.slice av L.length cv) L a w w1 i → ∃ gb n c, w1.cell? ⟨g, 4, none⟩ = some (.slice (some ⟨gb, 0, none⟩) n c) ∧ i < n ∧ w1.cell? ⟨gb, i * 4 + 3, none⟩ = some (.int .i64 (cntOf L a)) ∧ w1.cell? ⟨y, 2, none⟩ = some (.int .i64 tr) ∧ w1.cell? ⟨tb, 10, none⟩ = some (.int .i64 sends) ∧ Hid (∀ m, Calls Tryz.prog 128 #[.pointer (some ⟨y, 0, none⟩), .pointer (some ⟨tb, 0, none⟩), .int .i64 2, .slice none 0 0] (w1.drewN m) fun e w' => e = .returned (.tuple #[]) ∧ RepR (fun k => k = y ∨ k = g ∨ (Value.slice av L.length cv).ownBlock = some k ∨ (Value.slice ra R.length rc).ownBlock = some k) w w' y tb (fun vt' vr' => rresO vh en tr pa mx now rid asked vt' vs vr') tbs (.slice ra R.length rc) (R ++ [(num, rB id 2 nm ty)]))) := by
  intro w1 i h
  obtain ⟨gb, cv', L', q1, q2, q3, q4, q5, q6, q7, q8, q9, q10, q11, q12, q13⟩ := times_facts hy ht hg hv h
  refine ⟨gb, _, _, (cells6 q3).2.2.2.2.1, q7, q8, by rw [cell_blk q1]; rfl, by rw [cell_blk q2]; rfl, fun m => ?_⟩
  have hk : ∀ (k : Nat) (c : Array Value) (e : TypeId), e ≠ 226 → e ≠ 386 → w.heap[k]? = some (.cells c e (0, 0)) → w1.heap[k]? = w.heap[k]? := fun k c e h1 h2 hk => q12.block k (Array.getElem?_eq_some_iff.1 hk).1 (by rintro (rfl | h); exact kind_ne hk hg h1 rfl; exact own_far hv hk (Ne.symm h2) h.symm)
  refine (rreply_rep y tb vh vs va vs' vm gs en tr pa mx now rid asked num id 2 nm ty sends wi wa at_ wn wt wz ta ra tc rc tbs R (w1.drewN m) q1 q2 (own_same htk fun k e => ?_) (own_same hr fun k e => ?_) hnm hR h8 (fun b hb => ?_)).mono ?_
  ·obtain ⟨c, hc⟩ := own_blk htk e
   exact hk k _ 217 (by decide) (by decide) hc
  ·obtain ⟨c, hc⟩ := own_blk hr e
   exact hk k _ 66 (by decide) (by decide) hc
  ·obtain ⟨c, hc⟩ := hbs b hb
   exact ⟨c, (hk b _ 220 (by decide) (by decide) hc).trans hc⟩
  ·rintro e w' ⟨rfl, h1⟩
   refine ⟨rfl, h1.after (G := fun k => k = g ∨ (Value.slice av L.length cv).ownBlock = some k) (w0 := w) ⟨q12.os, q12.tape, q12.output, q12.size, q12.block⟩ (fun k hk => ?_) fun k hk => ?_⟩
   ·rcases hk with h | h
    ·exact .inl (.inl h)
    ·exact .inl (.inr (.inr (.inr h)))
   ·rcases hk with h | h
    ·exact .inr (.inl h)
    ·exact .inr (.inr (.inl h))
 clear hbs hy ht hg hv htk hr
 have hd1 : decide (cntOf L a ≥ tr) = false := by simp; omega
 have hd2 : decide (sends ≥ 16) = true := by simp; omega
 go_enter Tryz.func235, Tryz.ntmps235
 go_wp2_with fail
 refine hT.out.mono ?_
 rintro e w1 ⟨i, rfl, hTR⟩
 obtain ⟨gb, n, c, q1, q2, q3, q4, q5, HQ⟩ := HX.out w1 i hTR
 clear HX hT hTR
 go_wp2
 go_quiet (fail)
 go_wp2_with (go_at_call 128; refine (HQ.out _).mono ?_; rintro e w2 ⟨rfl, h1⟩)
 go_ret
 exact ⟨rfl, h1⟩
end Go.Proofs.YtefdokkadckbbaaGreatDoor
end
section
namespace Go.Proofs.YtefdokkadckbbaaGreatDoor
open Go.RowKit
set_option maxRecDepth 100000
def strLen : Value → Nat
 | .string z => z.size
 | _ => 0
theorem bytes_pos {z : ByteArray} (h : z ≠ ⟨#[]⟩) : 0 < z.size := by
 rcases Nat.eq_zero_or_pos z.size with h0 | h0
 ·exact absurd (ByteArray.ext (by apply Array.eq_empty_of_size_eq_zero; exact h0)) h
 ·exact h0
structure Look (w : World) (y tb g gb : Nat) (s : Rs) (t : Tk) (rid : Int) (vh : Value) (ta sa ra : Option Addr) (tc sc rc : Nat) (tbs : List Nat) (v : Value) (L : List (Int × Int)) : Prop where
 res : w.heap[y]? = some (rresO vh s.en s.tr s.pa s.mx s.now rid s.asked (.slice ta tbs.length tc) (.slice sa s.sent.length sc) (.slice ra s.replies.length rc))
 task : ∃ (aa as_ am : Option Addr) (ca cs cm gc : Nat) (wi wa : Int) (wn : ByteArray) (wt : Int) (wz : ByteArray), w.heap[tb]? = some (rtaskO t.num t.id t.nm t.ty (.slice aa 0 ca) (.slice as_ 0 cs) (.slice am 0 cm) (.slice (some ⟨gb, 0, none⟩) 1 gc) t.sends wi wa t.at_ wn wt wz)
 goal : w.heap[g]? = some (rgoalO t.nm t.ty v)
 row : w.ownsRow 0 386 4 v L.length (tcells t.nm L)
 hint : w.ownsRow 0 3 1 vh s.hs.length (s.hs.map fun a => Value.int .i64 a)
 tasks : w.ownsRow 0 217 1 (.slice ta tbs.length tc) tbs.length (tbs.map fun b => Value.pointer (some ⟨b, 0, none⟩))
 sent : w.ownsRow 0 105 2 (.slice sa s.sent.length sc) s.sent.length (pcells s.sent)
 reps : w.ownsRow 0 66 2 (.slice ra s.replies.length rc) s.replies.length (pcells s.replies)
 blk : ∀ b ∈ tbs, ∃ c, w.heap[b]? = some (.cells c 220 (0, 0))
def LookI (w wr : World) (g : Nat) (s : Rs) (t : Tk) (v : Value) (j : Nat) : Prop :=
 ∃ (av : Option Addr) (cv : Nat) (L' : List (Int × Int)), wr.heap[g]? = some (rgoalO t.nm t.ty (.slice av L'.length cv)) ∧ wr.ownsRow 0 386 4 (.slice av L'.length cv) L'.length (tcells t.nm L') ∧ t.cnt = cntOf L' ∧ PartN j s.hs L' ∧
  Keeps (fun k => k = g ∨ v.ownBlock = some k) w wr ∧ (∀ k, (Value.slice av L'.length cv).ownBlock = some k → v.ownBlock = some k ∨ w.heap.size ≤ k) ∧ ∀ i a, i < j → s.hs[i]? = some a → ¬ t.cnt a < s.tr
structure LookW (w wr : World) (y tb g gb : Nat) (s : Rs) (t : Tk) (rid : Int) (vh : Value) (ta sa ra : Option Addr) (tc sc rc : Nat) (tbs : List Nat) (v : Value) : Prop where
 res : wr.heap[y]? = some (rresO vh s.en s.tr s.pa s.mx s.now rid s.asked (.slice ta tbs.length tc) (.slice sa s.sent.length sc) (.slice ra s.replies.length rc))
 task : ∃ (aa as_ am : Option Addr) (ca cs cm gc : Nat) (wi wa : Int) (wn : ByteArray) (wt : Int) (wz : ByteArray), wr.heap[tb]? = some (rtaskO t.num t.id t.nm t.ty (.slice aa 0 ca) (.slice as_ 0 cs) (.slice am 0 cm) (.slice (some ⟨gb, 0, none⟩) 1 gc) t.sends wi wa t.at_ wn wt wz)
 hint : wr.ownsRow 0 3 1 vh s.hs.length (s.hs.map fun a => Value.int .i64 a)
 tasks : wr.ownsRow 0 217 1 (.slice ta tbs.length tc) tbs.length (tbs.map fun b => Value.pointer (some ⟨b, 0, none⟩))
 sent : wr.ownsRow 0 105 2 (.slice sa s.sent.length sc) s.sent.length (pcells s.sent)
 reps : wr.ownsRow 0 66 2 (.slice ra s.replies.length rc) s.replies.length (pcells s.replies)
 blk : ∀ b ∈ tbs, ∃ c, wr.heap[b]? = some (.cells c 220 (0, 0))
def SendR (w w' : World) (y tb g gb : Nat) (s : Rs) (t : Tk) (rid : Int) (vh vt vr : Value) (sa : Option Addr) (sc : Nat) (v : Value) (a : Int) : Prop :=
 ∃ (aa as_ am : Option Addr) (ca cs cm gc gt ct gs cs' : Nat) (L' : List (Int × Int)),
  w'.heap[y]? = some (rresO vh s.en s.tr s.pa s.mx s.now ((rid + 1) % 65536) s.asked vt (.slice (some ⟨gs, 0, none⟩) (s.sent.length + 1) cs') vr) ∧
  w'.heap[tb]? = some (rtaskO t.num t.id t.nm t.ty (.slice aa 0 ca) (.slice as_ 0 cs) (.slice am 0 cm) (.slice (some ⟨gb, 0, none⟩) 1 gc) (t.sends + 1) ((rid + 1) % 65536) a s.now t.nm t.ty ⟨#[]⟩) ∧
  w'.heap[g]? = some (rgoalO t.nm t.ty (.slice (some ⟨gt, 0, none⟩) L'.length ct)) ∧ w'.ownsRow 0 386 4 (.slice (some ⟨gt, 0, none⟩) L'.length ct) L'.length (tcells t.nm L') ∧
  w'.ownsRow 0 105 2 (.slice (some ⟨gs, 0, none⟩) (s.sent.length + 1) cs') (s.sent.length + 1) (pcells (s.sent ++ [(a, qB ((rid + 1) % 65536) t.nm t.ty)])) ∧ cntOf L' = bumped t.cnt a ∧ Part s.hs L' ∧
  Keeps (fun k => k = y ∨ k = tb ∨ k = g ∨ v.ownBlock = some k ∨ (Value.slice sa s.sent.length sc).ownBlock = some k) w w' ∧ (v.ownBlock = some gt ∨ w.heap.size ≤ gt) ∧ ((Value.slice sa s.sent.length sc).ownBlock = some gs ∨ w.heap.size ≤ gs)
theorem part_weak {j : Nat} {hs : List Int} {L : List (Int × Int)} (h : PartN j hs L) : Part hs L := by
 obtain ⟨k, _, h⟩ := h
 exact ⟨k, Nat.zero_le _, h⟩
theorem part_len {j : Nat} {hs : List Int} {L : List (Int × Int)} (h : PartN j hs L) : L.length ≤ hs.length := by
 obtain ⟨k, _, h1, h2, _⟩ := h
 omega
section
variable {w wr : World} {y tb g gb : Nat} {s : Rs} {t : Tk} {rid : Int} {vh : Value} {ta sa ra : Option Addr} {tc sc rc : Nat} {tbs : List Nat} {v : Value} {L : List (Int × Int)} {k n : Nat} {a : Int} {j : Nat}
theorem Look.start {av : Option Addr} {cv : Nat} (h : Look w y tb g gb s t rid vh ta sa ra tc sc rc tbs (.slice av L.length cv) L) (hcnt : t.cnt = cntOf L) (hpart : Part s.hs L) (m : Nat) : LookI w (w.drewN m) g s t (.slice av L.length cv) 0 :=
 ⟨av, cv, L, h.goal, own_same h.row fun _ _ => rfl, hcnt, hpart, ⟨rfl, rfl, rfl, Nat.le_refl _, fun _ _ _ => rfl⟩, fun k e => .inl e, fun i a hi => by omega⟩
theorem Look.world (h : Look w y tb g gb s t rid vh ta sa ra tc sc rc tbs v L) (hI : LookI w wr g s t v j) : LookW w wr y tb g gb s t rid vh ta sa ra tc sc rc tbs v := by
 obtain ⟨av, cv, L', _, _, _, _, hk, _, _⟩ := hI
 have hA : ∀ (k : Nat) (c : Array Value) (e : TypeId), e ≠ 226 → e ≠ 386 → w.heap[k]? = some (.cells c e (0, 0)) → wr.heap[k]? = w.heap[k]? := fun k c e h1 h2 hc => hk.block k (Array.getElem?_eq_some_iff.1 hc).1 (by rintro (rfl | h'); exact kind_ne hc h.goal h1 rfl; exact own_far h.row hc (Ne.symm h2) h'.symm)
 obtain ⟨aa, as_, am, ca, cs, cm, gc, wi, wa, wn, wt, wz, ht⟩ := h.task
 refine ⟨(hA y _ 163 (by decide) (by decide) h.res).trans h.res, ⟨aa, as_, am, ca, cs, cm, gc, wi, wa, wn, wt, wz, (hA tb _ 220 (by decide) (by decide) ht).trans ht⟩, own_same h.hint fun k e => ?_, own_same h.tasks fun k e => ?_, own_same h.sent fun k e => ?_, own_same h.reps fun k e => ?_, fun b hb => ?_⟩
 ·obtain ⟨c, hc⟩ := own_blk h.hint e
  exact hA k _ 3 (by decide) (by decide) hc
 ·obtain ⟨c, hc⟩ := own_blk h.tasks e
  exact hA k _ 217 (by decide) (by decide) hc
 ·obtain ⟨c, hc⟩ := own_blk h.sent e
  exact hA k _ 105 (by decide) (by decide) hc
 ·obtain ⟨c, hc⟩ := own_blk h.reps e
  exact hA k _ 66 (by decide) (by decide) hc
 ·obtain ⟨c, hc⟩ := h.blk b hb
  exact ⟨c, (hA b _ 220 (by decide) (by decide) hc).trans hc⟩
theorem hint_at (wr : World) {ha : Option Addr} {hcap : Nat} {aj : Int} (h : wr.ownsRow 0 3 1 (.slice ha s.hs.length hcap) s.hs.length (s.hs.map fun a => Value.int .i64 a)) (hj : s.hs[j]? = some aj) : ∃ hb : Nat, ∃ _hc : True, ha = some ⟨hb, 0, none⟩ ∧ wr.cell? ⟨hb, j, none⟩ = some (.int .i64 aj) := by
 rcases h.2 with ⟨h1, h0⟩ | ⟨hb, cap, cur, h1, _⟩
 ·have := (List.getElem?_eq_some_iff.1 hj).1; omega
 ·simp only [Value.slice.injEq] at h1
  obtain ⟨rfl, _, rfl⟩ := h1
  exact ⟨hb, trivial, rfl, own_cell h (by rw [List.getElem?_map, hj]; rfl)⟩
theorem look_all (hI : LookI w wr g s t v j) (hj : s.hs.length ≤ j) : nextS s.hs s.tr t ≠ some a := by
 intro hx
 obtain ⟨_, _, _, _, _, _, _, _, _, h⟩ := hI
 obtain ⟨h1, h2, _⟩ := next_some hx
 obtain ⟨i, hi⟩ := List.getElem?_of_mem h1
 exact h i a (by have := (List.getElem?_eq_some_iff.1 hi).1; omega) hi h2
theorem find_at {l : List Int} {p : Int → Bool} {j : Nat} {x a : Int} (hx : l[j]? = some x) (hp : p x = true) (hn : ∀ i b, i < j → l[i]? = some b → ¬ p b = true) (h : l.find? p = some a) : a = x := by
 induction l generalizing j with
 | nil => simp at hx
 | cons q r ih =>
  cases j with
  | zero =>
   simp only [List.getElem?_cons_zero, Option.some.injEq] at hx
   subst hx
   rw [List.find?_cons_of_pos hp] at h
   exact (Option.some.inj h).symm
  | succ j =>
   rw [List.find?_cons_of_neg (hn 0 q (by omega) rfl)] at h
   exact ih (by simpa using hx) (fun i b hi hb => hn (i + 1) b (by omega) (by simpa using hb)) h
theorem look_send (hok : RsOk s k n) (ht : TkOk t k) (hn : n ≤ 33554432) (hrid : 0 ≤ rid ∧ rid ≤ 65535) (hx : nextS s.hs s.tr t = some a) (hW : LookW w wr y tb g gb s t rid vh ta sa ra tc sc rc tbs v) (hI : LookI w wr g s t v j) {aj : Int} (hj : s.hs[j]? = some aj) (hc : t.cnt aj < s.tr) :
  Calls Tryz.prog 235 #[.pointer (some ⟨y, 0, none⟩), .pointer (some ⟨tb, 0, none⟩), .pointer (some ⟨g, 0, none⟩), .string ⟨#[]⟩, .string ⟨#[]⟩, .int .i64 aj] wr fun e w' => e = .returned (.bool true) ∧ SendR w w' y tb g gb s t rid vh (.slice ta tbs.length tc) (.slice ra s.replies.length rc) sa sc v a := by
 obtain ⟨av, cv, L', i1, i2, i3, i4, i5, i6, i7⟩ := hI
 obtain ⟨aa, as_, am, ca, cs, cm, gc, wi, wa, wn, wt, wz, h2⟩ := hW.task
 have hsd := (next_some hx).2.2
 obtain rfl : a = aj := by
  unfold nextS at hx
  rw [if_neg (by omega)] at hx
  exact find_at hj (by simpa using hc) (fun i b hi hb => by simpa using i7 i b hi hb) hx
 have hnm : t.nm.size ≤ 1048576 := by have := nameOk_size _ ht.nm; rw [tl_length] at this; omega
 have hl := part_len i4
 have h3 := hok.hs.2
 refine (rtries_send y tb g vh _ _ _ _ _ _ s.en s.tr s.pa s.mx s.now rid s.asked t.num t.id t.nm t.ty t.sends wi wa t.at_ wn wt wz sa av sc cv s.sent L' a wr hW.res h2 i1 i2 hW.sent hnm (by have := hok.sent; omega) (by omega) hrid ⟨ht.sends.1, hsd⟩ (by rw [← i3]; exact hc) (by rw [← i3]; exact ht.cnt a)).mono ?_
 rintro e w' ⟨rfl, gt, ct, L2, gs, cs', p1, p2, p3, p4, p5, p6, p7, p8, p9, p10⟩
 refine ⟨rfl, aa, as_, am, ca, cs, cm, gc, gt, ct, gs, cs', L2, p1, p2, p3, p4, p5, by rw [p6, i3], part_weak (part_step i4 hj p7), ?_, ?_, ?_⟩
 ·refine (i5.mono fun k hk => ?_).then p8 fun k hk => ?_
  ·rcases hk with h | h
   ·exact .inr (.inr (.inl h))
   ·exact .inr (.inr (.inr (.inl h)))
  ·rcases hk with h | h | h | h | h
   ·exact .inl (.inl h)
   ·exact .inl (.inr (.inl h))
   ·exact .inl (.inr (.inr (.inl h)))
   ·rcases i6 k h with h | h
    ·exact .inl (.inr (.inr (.inr (.inl h))))
    ·exact .inr h
   ·exact .inl (.inr (.inr (.inr (.inr h))))
 ·rcases p9 with h | h
  ·exact i6 _ h
  ·exact .inr (Nat.le_trans i5.size h)
 ·rcases p10 with h | h
  ·exact .inl h
  ·exact .inr (Nat.le_trans i5.size h)
theorem look_no (hW : LookW w wr y tb g gb s t rid vh ta sa ra tc sc rc tbs v) (hI : LookI w wr g s t v j) {aj : Int} (hj : s.hs[j]? = some aj) (hc : ¬ t.cnt aj < s.tr) (h3 : s.hs.length ≤ 3) :
  Calls Tryz.prog 235 #[.pointer (some ⟨y, 0, none⟩), .pointer (some ⟨tb, 0, none⟩), .pointer (some ⟨g, 0, none⟩), .string ⟨#[]⟩, .string ⟨#[]⟩, .int .i64 aj] wr fun e w' => e = .returned (.bool false) ∧ LookI w w' g s t v (j + 1) := by
 obtain ⟨av, cv, L', i1, i2, i3, i4, i5, i6, i7⟩ := hI
 obtain ⟨aa, as_, am, ca, cs, cm, gc, wi, wa, wn, wt, wz, h2⟩ := hW.task
 have hl := part_len i4
 refine (rtries_no y tb g vh _ _ _ _ _ _ _ s.en s.tr s.pa s.mx s.now rid s.asked t.num t.id t.nm t.ty t.sends wi wa t.at_ wn wt wz av cv L' aj wr hW.res h2 i1 i2 (by omega) (by rw [← i3]; omega)).mono ?_
 rintro e w' ⟨rfl, i, hT⟩
 obtain ⟨gt, ct, L2, q1, q2, q3, q4, q5, q6, q7, q8, q9, q10, q11, q12, q13⟩ := times_facts hW.res h2 i1 i2 hT
 refine ⟨rfl, some ⟨gt, 0, none⟩, ct, L2, q3, q4, by rw [q11]; exact i3, part_step i4 hj q10, i5.then q12 fun k hk => ?_, fun k hk => ?_, fun i' b hi hb => ?_⟩
 ·rcases hk with h | h
  ·exact .inl (.inl h)
  ·rcases i6 k h with h | h
   ·exact .inl (.inr h)
   ·exact .inr h
 ·obtain rfl : gt = k := by simpa [Value.ownBlock] using hk
  rcases q13 with h | h
  ·exact i6 _ h
  ·exact .inr (Nat.le_trans i5.size h)
 ·by_cases hij : i' < j
  ·exact i7 i' b hij hb
  ·obtain rfl : i' = j := by omega
   rw [hj] at hb
   cases hb
   exact hc
abbrev rmk (s : Rs) (rid : Int) (vh vs : Value) : Value → Value → Obj := fun vt' vr' => rresO vh s.en s.tr s.pa s.mx s.now rid s.asked vt' vs vr'
theorem look_stop (hok : RsOk s k n) (ht : TkOk t k) (hn : n ≤ 33554432) (h8 : tbs.length ≤ 8) (hx : nextS s.hs s.tr t = none) (hW : LookW w wr y tb g gb s t rid vh ta sa ra tc sc rc tbs v) (hI : LookI w wr g s t v j) {aj : Int} (hj : s.hs[j]? = some aj) (hc : t.cnt aj < s.tr) :
  Calls Tryz.prog 235 #[.pointer (some ⟨y, 0, none⟩), .pointer (some ⟨tb, 0, none⟩), .pointer (some ⟨g, 0, none⟩), .string ⟨#[]⟩, .string ⟨#[]⟩, .int .i64 aj] wr fun e w' => e = .returned (.bool true) ∧ RepR (fun k => k = y ∨ k = g ∨ v.ownBlock = some k ∨ (Value.slice ra s.replies.length rc).ownBlock = some k) w w' y tb (rmk s rid vh (.slice sa s.sent.length sc)) tbs (.slice ra s.replies.length rc) (s.replies ++ [(t.num, rB t.id 2 t.nm t.ty)]) := by
 obtain ⟨av, cv, L', i1, i2, i3, i4, i5, i6, i7⟩ := hI
 obtain ⟨aa, as_, am, ca, cs, cm, gc, wi, wa, wn, wt, wz, h2⟩ := hW.task
 have hsd : 16 ≤ t.sends := by
  unfold nextS at hx
  split at hx
  ·assumption
  ·have := List.find?_eq_none.1 hx aj (List.mem_of_getElem? hj)
   simp at this
   omega
 have hnm : t.nm.size ≤ 1048576 := by have := nameOk_size _ ht.nm; rw [tl_length] at this; omega
 have hl := part_len i4
 have h3 := hok.hs.2
 refine (rtries_stop y tb g vh _ _ _ _ _ s.en s.tr s.pa s.mx s.now rid s.asked t.num t.id t.nm t.ty t.sends wi wa t.at_ wn wt wz av ta ra cv tc rc tbs s.replies L' aj wr hW.res h2 i1 i2 hW.tasks hW.reps hnm (by have := hok.replies; omega) h8 hW.blk (by omega) hsd (by rw [← i3]; exact hc)).mono ?_
 rintro e w' ⟨rfl, h1⟩
 refine ⟨rfl, h1.after i5 (fun k hk => ?_) fun k hk => ?_⟩
 ·rcases hk with h | h | h | h
  ·exact .inl (.inl h)
  ·exact .inl (.inr (.inl h))
  ·rcases i6 k h with h | h
   ·exact .inl (.inr (.inr (.inl h)))
   ·exact .inr h
  ·exact .inl (.inr (.inr (.inr h)))
 ·rcases hk with h | h
  ·exact .inr (.inl h)
  ·exact .inr (.inr (.inl h))
theorem look_ends (hok : RsOk s k n) (ht : TkOk t k) (hn : n ≤ 33554432) (h8 : tbs.length ≤ 8) (hW : LookW w wr y tb g gb s t rid vh ta sa ra tc sc rc tbs v) (hI : LookI w wr g s t v j) :
  Calls Tryz.prog 165 #[.pointer (some ⟨y, 0, none⟩), .pointer (some ⟨tb, 0, none⟩), .int .i64 2, .slice none 0 0, .int .i64 0] wr fun e w' => e = .returned (.bool false) ∧ RepR (fun k => k = y ∨ k = g ∨ v.ownBlock = some k ∨ (Value.slice ra s.replies.length rc).ownBlock = some k) w w' y tb (rmk s rid vh (.slice sa s.sent.length sc)) tbs (.slice ra s.replies.length rc) (s.replies ++ [(t.num, rB t.id 2 t.nm t.ty)]) := by
 obtain ⟨av, cv, L', i1, i2, i3, i4, i5, i6, i7⟩ := hI
 obtain ⟨aa, as_, am, ca, cs, cm, gc, wi, wa, wn, wt, wz, h2⟩ := hW.task
 have hnm : t.nm.size ≤ 1048576 := by have := nameOk_size _ ht.nm; rw [tl_length] at this; omega
 refine (rends_failed y tb vh _ _ _ _ _ _ s.en s.tr s.pa s.mx s.now rid s.asked t.num t.id t.nm t.ty t.sends wi wa t.at_ wn wt wz ta ra tc rc tbs s.replies wr hW.res h2 hW.tasks hW.reps hnm (by have := hok.replies; omega) h8 hW.blk).mono ?_
 rintro e w' ⟨rfl, h1⟩
 refine ⟨rfl, h1.after i5 (fun k hk => ?_) fun k hk => ?_⟩
 ·rcases hk with h | h
  ·exact .inl (.inl h)
  ·exact .inl (.inr (.inr (.inr h)))
 ·rcases hk with h | h
  ·exact .inr (.inl h)
  ·exact .inr (.inr (.inl h))
end
set_option maxHeartbeats 4000000 in
theorem rlooks_send (y tb g gb : Nat) (s : Rs) (t : Tk) (rid : Int) (vh : Value) (ta sa ra : Option Addr) (tc sc rc : Nat) (tbs : List Nat) (v : Value) (L : List (Int × Int)) (k n : Nat) (a : Int) (w : World) (h : Look w y tb g gb s t rid vh ta sa ra tc sc rc tbs v L) (hcnt : t.cnt = cntOf L) (hpart : Part s.hs L) (hok : RsOk s k n) (ht : TkOk t k) (hn : n ≤ 33554432) (hrid : 0 ≤ rid ∧ rid ≤ 65535) (hx : nextS s.hs s.tr t = some a) :
  Calls Tryz.prog 167 #[.pointer (some ⟨y, 0, none⟩), .pointer (some ⟨tb, 0, none⟩), .pointer (some ⟨g, 0, none⟩)] w fun e w' => e = .returned (.bool false) ∧ SendR w w' y tb g gb s t rid vh (.slice ta tbs.length tc) (.slice ra s.replies.length rc) sa sc v a := by
 have h33 := hok.hs.2
 have hnm : t.nm.size ≤ 1048576 := by have := nameOk_size _ ht.nm; rw [tl_length] at this; omega
 have c5 : w.cell? ⟨y, 5, none⟩ = some (.slice none 0 0) := by rw [cell_blk h.res]; rfl
 have c1 : w.cell? ⟨g, 1, none⟩ = some (.string t.nm) := by rw [cell_blk h.goal]; rfl
 obtain ⟨av, cv, rfl⟩ := own_val' h.row
 obtain ⟨ha, hcap, rfl⟩ := own_val' h.hint
 have HI : Hid (∀ m, LookI w (w.drewN m) g s t (.slice av L.length cv) 0) := fun m => h.start hcnt hpart m
 have HL : Hid (∀ wr j, LookI w wr g s t (.slice av L.length cv) j → wr.cell? ⟨y, 0, none⟩ = some (.slice ha s.hs.length hcap) ∧ Hid (LookW w wr y tb g gb s t rid (.slice ha s.hs.length hcap) ta sa ra tc sc rc tbs (.slice av L.length cv) ∧ wr.ownsRow 0 3 1 (.slice ha s.hs.length hcap) s.hs.length (s.hs.map fun a => Value.int .i64 a))) := by
  intro wr j hI
  have := h.world hI
  exact ⟨by rw [cell_blk this.res]; rfl, this, this.hint⟩
 clear h
 go_enter Tryz.func167, Tryz.ntmps167
 go_wp2
 go_loopw [7] (fun z wr => ∃ (zz : ByteArray) (m : Nat), z = .string zz ∧ zz.size ≤ 1048576 ∧ wr = w.drewN m) (fun z _ => strLen z)
 case atStart => exact ⟨t.nm, 0, rfl, hnm, rfl⟩
 case round =>
  obtain ⟨zz, m, rfl, hzz, rfl⟩ := hrel
  by_cases hz : zz = ⟨#[]⟩
  ·subst hz
   obtain ⟨W, hW⟩ : ∃ W, w.drewN m = W := ⟨_, rfl⟩
   have HW := hid (HI.out m)
   rw [hW] at HW
   rw [hW]
   clear hW HI c5 c1 hzz
   go_wp2
   go_loopw [12] (fun i wr => ∃ j : Nat, j ≤ s.hs.length ∧ i = .int .i64 j ∧ LookI w wr g s t (.slice av L.length cv) j) (fun i _ => s.hs.length - (intOf i).toNat)
   case atStart => exact ⟨0, Nat.zero_le _, rfl, HW.out⟩
   case round =>
    obtain ⟨j, hj, rfl, hI⟩ := hrel
    obtain ⟨q0, HH⟩ := HL.out wr j hI
    by_cases hlt : j < s.hs.length
    ·obtain ⟨aj, haj⟩ : ∃ a, s.hs[j]? = some a := ⟨s.hs[j], List.getElem?_eq_getElem hlt⟩
     obtain ⟨hb, hc, rfl, q1⟩ := hint_at wr HH.out.2 haj
     by_cases hcn : t.cnt aj < s.tr
     ·have HC := hid (look_send hok ht hn hrid hx HH.out.1 hI haj hcn)
      clear hI HH
      go_wp2_with (go_at_call 235; refine HC.out.mono ?_; rintro e w1 ⟨rfl, h1⟩)
      go_ret
      exact ⟨rfl, h1⟩
     ·have HC := hid (look_no HH.out.1 hI haj hcn h33)
      clear hI HH
      go_wp2_with (go_at_call 235; refine HC.out.mono ?_; rintro e w1 ⟨rfl, h1⟩)
      go_roundw
      case rel => exact ⟨j + 1, hlt, by go_num, h1⟩
      case measure => simp [intOf]; omega
    ·exact absurd hx (look_all hI (by omega))
  ·have hz0 : 0 < zz.size := bytes_pos hz
   have hze : zz.toList.isEmpty = false := by
    rw [empty_iff]
    have := tl_length zz
    cases h : tl zz with
    | nil => rw [h] at this; simp at this; omega
    | cons x r => rfl
   go_wp2_with (first
    | (go_at_call 163; refine (rsaid_none y zz 2 1 (w.drewN m) c5).mono ?_; rintro e w1 ⟨rfl, m1, rfl⟩)
    | (go_at_call 232; refine (rabove_any zz _ hzz).mono ?_; rintro e w1 ⟨z', rfl, rfl, hz1, hz2⟩))
   go_roundw
   case rel => exact ⟨z', m + m1, rfl, by omega, rfl⟩
   case measure => simp only [strLen]; exact hz2 hz0
set_option maxHeartbeats 4000000 in
theorem rlooks_end (y tb g gb : Nat) (s : Rs) (t : Tk) (rid : Int) (vh : Value) (ta sa ra : Option Addr) (tc sc rc : Nat) (tbs : List Nat) (v : Value) (L : List (Int × Int)) (k n : Nat) (w : World) (h : Look w y tb g gb s t rid vh ta sa ra tc sc rc tbs v L) (hcnt : t.cnt = cntOf L) (hpart : Part s.hs L) (hok : RsOk s k n) (ht : TkOk t k) (hn : n ≤ 33554432) (h8 : tbs.length ≤ 8) (hx : nextS s.hs s.tr t = none) :
  Calls Tryz.prog 167 #[.pointer (some ⟨y, 0, none⟩), .pointer (some ⟨tb, 0, none⟩), .pointer (some ⟨g, 0, none⟩)] w fun e w' => e = .returned (.bool false) ∧ RepR (fun k => k = y ∨ k = g ∨ v.ownBlock = some k ∨ (Value.slice ra s.replies.length rc).ownBlock = some k) w w' y tb (rmk s rid vh (.slice sa s.sent.length sc)) tbs (.slice ra s.replies.length rc) (s.replies ++ [(t.num, rB t.id 2 t.nm t.ty)]) := by
 have h33 := hok.hs.2
 have hnm : t.nm.size ≤ 1048576 := by have := nameOk_size _ ht.nm; rw [tl_length] at this; omega
 have c5 : w.cell? ⟨y, 5, none⟩ = some (.slice none 0 0) := by rw [cell_blk h.res]; rfl
 have c1 : w.cell? ⟨g, 1, none⟩ = some (.string t.nm) := by rw [cell_blk h.goal]; rfl
 obtain ⟨av, cv, rfl⟩ := own_val' h.row
 obtain ⟨ha, hcap, rfl⟩ := own_val' h.hint
 have HI : Hid (∀ m, LookI w (w.drewN m) g s t (.slice av L.length cv) 0) := fun m => h.start hcnt hpart m
 have HL : Hid (∀ wr j, LookI w wr g s t (.slice av L.length cv) j → wr.cell? ⟨y, 0, none⟩ = some (.slice ha s.hs.length hcap) ∧ Hid (LookW w wr y tb g gb s t rid (.slice ha s.hs.length hcap) ta sa ra tc sc rc tbs (.slice av L.length cv) ∧ wr.ownsRow 0 3 1 (.slice ha s.hs.length hcap) s.hs.length (s.hs.map fun a => Value.int .i64 a))) := by
  intro wr j hI
  have := h.world hI
  exact ⟨by rw [cell_blk this.res]; rfl, this, this.hint⟩
 clear h
 go_enter Tryz.func167, Tryz.ntmps167
 go_wp2
 go_loopw [7] (fun z wr => ∃ (zz : ByteArray) (m : Nat), z = .string zz ∧ zz.size ≤ 1048576 ∧ wr = w.drewN m) (fun z _ => strLen z)
 case atStart => exact ⟨t.nm, 0, rfl, hnm, rfl⟩
 case round =>
  obtain ⟨zz, m, rfl, hzz, rfl⟩ := hrel
  by_cases hz : zz = ⟨#[]⟩
  ·subst hz
   obtain ⟨W, hW⟩ : ∃ W, w.drewN m = W := ⟨_, rfl⟩
   have HW := hid (HI.out m)
   rw [hW] at HW
   rw [hW]
   clear hW HI c5 c1 hzz
   go_wp2
   go_loopw [12] (fun i wr => ∃ j : Nat, j ≤ s.hs.length ∧ i = .int .i64 j ∧ LookI w wr g s t (.slice av L.length cv) j) (fun i _ => s.hs.length - (intOf i).toNat)
   case atStart => exact ⟨0, Nat.zero_le _, rfl, HW.out⟩
   case round =>
    obtain ⟨j, hj, rfl, hI⟩ := hrel
    obtain ⟨q0, HH⟩ := HL.out wr j hI
    by_cases hlt : j < s.hs.length
    ·obtain ⟨aj, haj⟩ : ∃ a, s.hs[j]? = some a := ⟨s.hs[j], List.getElem?_eq_getElem hlt⟩
     obtain ⟨hb, hc, rfl, q1⟩ := hint_at wr HH.out.2 haj
     by_cases hcn : t.cnt aj < s.tr
     ·have HC := hid (look_stop hok ht hn h8 hx HH.out.1 hI haj hcn)
      clear hI HH
      go_wp2_with (go_at_call 235; refine HC.out.mono ?_; rintro e w1 ⟨rfl, h1⟩)
      go_ret
      exact ⟨rfl, h1⟩
     ·have HC := hid (look_no HH.out.1 hI haj hcn h33)
      clear hI HH
      go_wp2_with (go_at_call 235; refine HC.out.mono ?_; rintro e w1 ⟨rfl, h1⟩)
      go_roundw
      case rel => exact ⟨j + 1, hlt, by go_num, h1⟩
      case measure => simp [intOf]; omega
    ·have HC := hid (look_ends hok ht hn h8 HH.out.1 hI)
     clear hI HH
     go_wp2_with (go_at_call 165; refine HC.out.mono ?_; rintro e w1 ⟨rfl, h1⟩)
     go_ret
     exact ⟨rfl, h1⟩
  ·have hz0 : 0 < zz.size := bytes_pos hz
   have hze : zz.toList.isEmpty = false := by
    rw [empty_iff]
    have := tl_length zz
    cases h : tl zz with
    | nil => rw [h] at this; simp at this; omega
    | cons x r => rfl
   go_wp2_with (first
    | (go_at_call 163; refine (rsaid_none y zz 2 1 (w.drewN m) c5).mono ?_; rintro e w1 ⟨rfl, m1, rfl⟩)
    | (go_at_call 232; refine (rabove_any zz _ hzz).mono ?_; rintro e w1 ⟨z', rfl, rfl, hz1, hz2⟩))
   go_roundw
   case rel => exact ⟨z', m + m1, rfl, by omega, rfl⟩
   case measure => simp only [strLen]; exact hz2 hz0
end Go.Proofs.YtefdokkadckbbaaGreatDoor
end
