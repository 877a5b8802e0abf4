/- D4 E1 E2 I1 I2 -/
import Derived.Test.YtefdokkadckbbaaGreatDoorZ08
import Derived.Test.YtefdokkadckbbaaGreatDoorZ16
section
namespace Go.Proofs.YtefdokkadckbbaaGreatDoor
open Go.RowKit
set_option maxRecDepth 100000
theorem rEncode_any (m : Msg) (va vs vm : Value) (w : World) (hS : SmallM m) (ha : RecSl w va m.answer) (hs : RecSl w vs m.servers) (hm : RecSl w vm m.more) :
  Calls Tryz.prog 124 #[.agg #[.int .i64 m.id, .bool m.reply, .int .i64 m.code, .string m.name, .int .i64 m.ty, va, vs, vm]] w fun e w' => e = .returned (.tuple #[.string (encS m), .int .i64 (encE m)]) ∧ Below w.heap.size w w' := by
 cases hok : msgOk m with
 | true => exact rEncode_yes m va vs vm w hS ha hs hm hok
 | false => exact rEncode_no m va vs vm w hS ha hs hm hok
theorem num_any (n : Int) (w : World) : Calls Tryz.prog 74 #[.int .i64 n] w fun e w' => e = .returned (.int .i64 n) ∧ w' = w := by
 go_enter Tryz.func74, Tryz.ntmps74
 go_wp2
 go_ret
 exact ⟨rfl, rfl⟩
def Boxes (b : Nat) (m : Msg) (v0 v1 v2 u0 u1 u2 : Value) (W : World) : Prop :=
 W.heap[b]? = some (.cells #[.int .i64 m.id, .bool m.reply, .int .i64 m.code, .string m.name, .int .i64 m.ty, v0, v1, v2] 27 (0, 0)) ∧
 W.heap[b + 1]? = some (.cells #[.int .i64 m.id, .bool m.reply, .int .i64 m.code, .string m.name, .int .i64 m.ty, u0, u1, u2] 27 (0, 0))
theorem Boxes.below {b : Nat} {m : Msg} {v0 v1 v2 u0 u1 u2 : Value} {W W' : World} (h : Boxes b m v0 v1 v2 u0 u1 u2 W) (hb : Below W.heap.size W W') : Boxes b m v0 v1 v2 u0 u1 u2 W' := by
 refine ⟨?_, ?_⟩
 ·rw [hb.block b (Array.getElem?_eq_some_iff.1 h.1).1]; exact h.1
 ·rw [hb.block (b + 1) (Array.getElem?_eq_some_iff.1 h.2).1]; exact h.2
theorem Boxes.lt {b : Nat} {m : Msg} {v0 v1 v2 u0 u1 u2 : Value} {W : World} (h : Boxes b m v0 v1 v2 u0 u1 u2 W) : b + 1 < W.heap.size := (Array.getElem?_eq_some_iff.1 h.2).1
theorem Boxes.cells {b : Nat} {m : Msg} {v0 v1 v2 u0 u1 u2 : Value} {W : World} (h : Boxes b m v0 v1 v2 u0 u1 u2 W) :
  W.cell? ⟨b, 5, none⟩ = some v0 ∧ W.cell? ⟨b, 6, none⟩ = some v1 ∧ W.cell? ⟨b, 7, none⟩ = some v2 ∧ W.cell? ⟨b + 1, 5, none⟩ = some u0 ∧ W.cell? ⟨b + 1, 6, none⟩ = some u1 ∧ W.cell? ⟨b + 1, 7, none⟩ = some u2 ∧
  W.frozen? ⟨b + 1, 5, none⟩ = false ∧ W.frozen? ⟨b + 1, 6, none⟩ = false ∧ W.frozen? ⟨b + 1, 7, none⟩ = false := by
 refine ⟨?_, ?_, ?_, ?_, ?_, ?_, ?_, ?_, ?_⟩
 ·rw [cell_blk h.1]; rfl
 ·rw [cell_blk h.1]; rfl
 ·rw [cell_blk h.1]; rfl
 ·rw [cell_blk h.2]; rfl
 ·rw [cell_blk h.2]; rfl
 ·rw [cell_blk h.2]; rfl
 ·exact frozen_of_row W (b + 1) 5 _ 27 h.2
 ·exact frozen_of_row W (b + 1) 6 _ 27 h.2
 ·exact frozen_of_row W (b + 1) 7 _ 27 h.2
theorem Boxes.plain {b : Nat} {m : Msg} {v0 v1 v2 u0 u1 u2 : Value} {W : World} (h : Boxes b m v0 v1 v2 u0 u1 u2 W) :
  W.cell? ⟨b, 0, none⟩ = some (.int .i64 m.id) ∧ W.cell? ⟨b, 1, none⟩ = some (.bool m.reply) ∧ W.cell? ⟨b, 2, none⟩ = some (.int .i64 m.code) ∧ W.cell? ⟨b, 3, none⟩ = some (.string m.name) ∧ W.cell? ⟨b, 4, none⟩ = some (.int .i64 m.ty) ∧
  W.cell? ⟨b + 1, 0, none⟩ = some (.int .i64 m.id) ∧ W.cell? ⟨b + 1, 1, none⟩ = some (.bool m.reply) ∧ W.cell? ⟨b + 1, 2, none⟩ = some (.int .i64 m.code) ∧ W.cell? ⟨b + 1, 3, none⟩ = some (.string m.name) ∧ W.cell? ⟨b + 1, 4, none⟩ = some (.int .i64 m.ty) := by
 refine ⟨?_, ?_, ?_, ?_, ?_, ?_, ?_, ?_, ?_, ?_⟩
 all_goals first | (rw [cell_blk h.1]; rfl) | (rw [cell_blk h.2]; rfl)
def LenM (m : Msg) : Prop := m.answer.length ≤ 1048576 ∧ m.servers.length ≤ 1048576 ∧ m.more.length ≤ 1048576
end Go.Proofs.YtefdokkadckbbaaGreatDoor
end
section
namespace Go.Proofs.YtefdokkadckbbaaGreatDoor
open Go.RowKit
set_option maxRecDepth 100000
structure OpR where
 kind : Int
 at_ : Int
 x : Int
 m : Msg
 a0 : Option Addr
 c0 : Nat
 a1 : Option Addr
 c1 : Nat
 a2 : Option Addr
 c2 : Nat
 s : ByteArray
 ha : Option Addr
 hn : Nat
 hc : Nat
 e1 : Int
 e2 : Int
 e3 : Int
 e4 : Int
 la : Option Addr
 ln : Nat
 lc : Nat
def OpGood (w : World) (p : OpR) : Prop :=
 SmallM p.m ∧ LenM p.m ∧ (p.a0 = none → p.m.answer = [] ∧ p.c0 = 0) ∧ (p.a1 = none → p.m.servers = [] ∧ p.c1 = 0) ∧ (p.a2 = none → p.m.more = [] ∧ p.c2 = 0) ∧
 RecSl w (.slice p.a0 p.m.answer.length p.c0) p.m.answer ∧ RecSl w (.slice p.a1 p.m.servers.length p.c1) p.m.servers ∧ RecSl w (.slice p.a2 p.m.more.length p.c2) p.m.more
theorem OpGood.below {w w' : World} {p : OpR} (h : OpGood w p) (hb : Below w.heap.size w w') : OpGood w' p := by
 obtain ⟨h1, h2, h3, h4, h5, h6, h7, h8⟩ := h
 exact ⟨h1, h2, h3, h4, h5, h6.below hb, h7.below hb, h8.below hb⟩
end Go.Proofs.YtefdokkadckbbaaGreatDoor
end
section
namespace Go.Proofs.YtefdokkadckbbaaGreatDoor
open Go.RowKit
set_option maxRecDepth 100000
def OpAt (w : World) (g o : Nat) (p : OpR) : Prop :=
 w.cell? ⟨g, o, none⟩ = some (.int .i64 p.kind) ∧ w.cell? ⟨g, o + 1, none⟩ = some (.int .i64 p.at_) ∧ w.cell? ⟨g, o + 2, none⟩ = some (.int .i64 p.x) ∧ w.cell? ⟨g, o + 3, none⟩ = some (.int .i64 p.m.id) ∧ w.cell? ⟨g, o + 4, none⟩ = some (.bool p.m.reply) ∧ w.cell? ⟨g, o + 5, none⟩ = some (.int .i64 p.m.code) ∧ w.cell? ⟨g, o + 6, none⟩ = some (.string p.m.name) ∧ w.cell? ⟨g, o + 7, none⟩ = some (.int .i64 p.m.ty) ∧ w.cell? ⟨g, o + 8, none⟩ = some (.slice p.a0 p.m.answer.length p.c0) ∧ w.cell? ⟨g, o + 9, none⟩ = some (.slice p.a1 p.m.servers.length p.c1) ∧ w.cell? ⟨g, o + 10, none⟩ = some (.slice p.a2 p.m.more.length p.c2) ∧ w.cell? ⟨g, o + 11, none⟩ = some (.string p.s) ∧ w.cell? ⟨g, o + 12, none⟩ = some (.slice p.ha p.hn p.hc) ∧ w.cell? ⟨g, o + 13, none⟩ = some (.int .i64 p.e1) ∧ w.cell? ⟨g, o + 14, none⟩ = some (.int .i64 p.e2) ∧ w.cell? ⟨g, o + 15, none⟩ = some (.int .i64 p.e3) ∧ w.cell? ⟨g, o + 16, none⟩ = some (.int .i64 p.e4) ∧ w.cell? ⟨g, o + 17, none⟩ = some (.slice p.la p.ln p.lc)
theorem OpAt.below {w w' : World} {B g o : Nat} {p : OpR} (h : OpAt w g o p) (hb : Below B w w') (hg : g < B) : OpAt w' g o p := by
 unfold OpAt at *
 simp only [hb.cell (p := ⟨g, _, none⟩) hg]
 exact h
end Go.Proofs.YtefdokkadckbbaaGreatDoor
end
section
namespace Go.Proofs.YtefdokkadckbbaaGreatDoor
open Go.RowKit
set_option maxRecDepth 100000
theorem dotJoin_first (x : List UInt8) : dotJoin [x] = x := Lib.join_one x [46]
theorem dotJoin_snoc {L : List (List UInt8)} (h : L ≠ []) (x : List UInt8) : dotJoin (L ++ [x]) = dotJoin L ++ [46] ++ x := by
 cases L with
 | nil => exact absurd rfl h
 | cons y r =>
  unfold dotJoin
  rw [List.cons_append, Lib.join_cons, Lib.join_cons]
  simp [Lib.joinTail]
theorem dotJoin_le : ∀ (L : List (List UInt8)), (∀ x ∈ L, x.length ≤ 6) → (dotJoin L).length ≤ 7 * L.length := by
 intro L hL
 unfold dotJoin
 cases L with
 | nil => simp [Lib.join_nil]
 | cons y r =>
  rw [Lib.join_length]
  have hl : ∀ r : List (List UInt8), (∀ x ∈ r, x.length ≤ 6) → Lib.lens r ≤ 6 * r.length := by
   intro r hr
   induction r with
   | nil => simp [Lib.lens]
   | cons z q ih =>
    have h1 := hr z (by simp)
    have h2 := ih (fun x hx => hr x (by simp [hx]))
    simp [Lib.lens] at h2 ⊢; omega
  have := hl (y :: r) hL
  simp at this ⊢
  omega
theorem joined_first {xs : List ByteArray} {x : ByteArray} (hx : xs[0]? = some x) : mk (dotJoin ((xs.take 0).map tl)) ++ x = mk (dotJoin ((xs.take (0 + 1)).map tl)) := by
 apply tl_inj
 rw [List.take_add_one, hx, tl_append, tl_mk', tl_mk']
 simp [dotJoin_first]
 rfl
theorem joined_next {xs : List ByteArray} {x acc : ByteArray} {k : Nat} (hk : 0 < k) (hx : xs[k]? = some x) (ha : acc = mk (dotJoin ((xs.take k).map tl))) : acc ++ ⟨#[46]⟩ ++ x = mk (dotJoin ((xs.take (k + 1)).map tl)) := by
 have hlt : k < xs.length := (List.getElem?_eq_some_iff.1 hx).1
 apply tl_inj
 rw [List.take_add_one, hx, tl_append, tl_append, ha, tl_mk', tl_mk', List.map_append]
 have : (xs.take k).map tl ≠ [] := by
  intro e
  have := congrArg List.length e
  rw [List.length_map, List.length_take, List.length_nil] at this
  omega
 rw [show (some x).toList.map tl = [tl x] from rfl, dotJoin_snoc this]
 rfl
set_option maxHeartbeats 800000 in
theorem joined_any (v : Value) (xs : List ByteArray) (w : World) (hv : StrSl w v xs) (hN : xs.length ≤ 5) (h6 : ∀ x ∈ xs.map tl, x.length ≤ 6) :
  Calls Tryz.prog 161 #[v] w fun e w' => e = .returned (.string (mk (dotJoin (xs.map tl)))) ∧ Below w.heap.size w w' := by
 obtain ⟨a, c, rfl, hcell⟩ := hv.any
 have HC : Hid (∀ (j : Nat) (x : ByteArray), xs[j]? = some x → ∃ g o, a = some ⟨g, o, none⟩ ∧ g < w.heap.size ∧ w.cell? ⟨g, o + j, none⟩ = some (.string x)) := hcell
 have H6 : Hid (∀ x ∈ xs.map tl, x.length ≤ 6) := h6
 clear hcell h6 hv
 go_enter Tryz.func161, Tryz.ntmps161
 go_wp2
 go_loopw [3, 4] (fun v i wr => ∃ k : Nat, k ≤ xs.length ∧ i = .int .i64 k ∧ v = .string (mk (dotJoin ((xs.take k).map tl))) ∧ Below w.heap.size w wr) (fun _ i _ => xs.length - (intOf i).toNat)
 case atStart => exact ⟨0, Nat.zero_le _, rfl, rfl, Below.refl _ _⟩
 case round =>
  obtain ⟨k, hk, rfl, rfl, hbr⟩ := hrel
  by_cases hlt : k < xs.length
  ·obtain ⟨x, hx⟩ := get_at hlt
   obtain ⟨g, o, rfl, hg, hcx0⟩ := HC.out k x hx
   have hcx : wr.cell? ⟨g, o + k, none⟩ = some (.string x) := (hbr.cell (p := ⟨g, o + k, none⟩) hg).trans hcx0
   clear hcx0
   have hx6 : x.size ≤ 6 := by rw [← tl_length]; exact H6.out _ (List.mem_map_of_mem (List.mem_of_getElem? hx))
   have HX : Hid (xs[k]? = some x) := hx
   clear hx
   obtain ⟨acc, hacc⟩ : ∃ acc, acc = mk (dotJoin ((xs.take k).map tl)) := ⟨_, rfl⟩
   rw [← hacc]
   have hal : acc.size ≤ 100 := by
    rw [hacc, mk_size]
    have := dotJoin_le ((xs.take k).map tl) (fun y hy => H6.out y (by
     obtain ⟨z, hz, rfl⟩ := List.mem_map.1 hy
     exact List.mem_map_of_mem (List.mem_of_mem_take hz)))
    rw [List.length_map, List.length_take] at this
    omega
   have HA : Hid (acc = mk (dotJoin ((xs.take k).map tl))) := hacc
   clear hacc
   have hq1 : ¬ 9223372036854775807 < acc.size + 1 := by omega
   have hq2 : ¬ 9223372036854775807 < acc.size + 1 + x.size := by omega
   have hq3 : ¬ 9223372036854775807 < acc.size + x.size := by omega
   by_cases h0 : k = 0
   ·subst h0
    rw [Nat.add_zero] at hcx
    go_wp2
    go_roundw
    case rel => exact ⟨0 + 1, hlt, by go_num, by rw [HA.out, joined_first HX.out], hbr⟩
    case measure => simp [intOf]; omega
   ·go_wp2
    go_roundw
    case rel => exact ⟨k + 1, hlt, by go_num, by rw [← joined_next (by omega) HX.out HA.out], hbr⟩
    case measure => simp [intOf]; omega
  ·go_wp2
   go_ret
   have e : k = xs.length := by omega
   subst e
   exact ⟨ret_str (by rw [List.take_length]), hbr⟩
end Go.Proofs.YtefdokkadckbbaaGreatDoor
end
section
namespace Go.Proofs.YtefdokkadckbbaaGreatDoor
open Go.RowKit
set_option maxRecDepth 100000
def cutS (t : List UInt8) (n : Nat) : Option (List (List UInt8) × Nat) := (lblS t n n).bind fun x => if x.1.length ≤ 5 then some x else none
def CRes (w : World) (o : Option (List (List UInt8) × Nat)) (e : Ending) (w' : World) : Prop :=
 Below w.heap.size w w' ∧ (match o with
  | some x => ∃ v ss, e = .returned (.tuple #[v, .int .i64 (x.2 : Int)]) ∧ ss.map tl = x.1 ∧ StrSl w' v ss
  | none => e = .returned (.tuple #[.slice none 0 0, .int .i64 (-1)]))
theorem CRes.no {w : World} {o : Option (List (List UInt8) × Nat)} {f : FuncId} {args : Array Value} (h : Calls Tryz.prog f args w (CRes w o)) (ho : o = none) :
  Calls Tryz.prog f args w fun e w' => e = .returned (.tuple #[.slice none 0 0, .int .i64 (-1)]) ∧ Below w.heap.size w w' := by
 subst ho; exact h.mono fun e w' ⟨h1, h2⟩ => ⟨h2, h1⟩
theorem CRes.ok {w : World} {o : Option (List (List UInt8) × Nat)} {f : FuncId} {args : Array Value} (h : Calls Tryz.prog f args w (CRes w o)) {l : List (List UInt8)} {m : Nat} (ho : o = some (l, m)) :
  Calls Tryz.prog f args w fun e w' => ∃ v ss, e = .returned (.tuple #[v, .int .i64 (m : Int)]) ∧ ss.map tl = l ∧ StrSl w' v ss ∧ Below w.heap.size w w' := by
 subst ho; exact h.mono fun e w' ⟨h1, v, ss, h2, h3, h4⟩ => ⟨v, ss, h2, h3, h4, h1⟩
theorem byteS_at {s : ByteArray} {k : Nat} (h : k < s.size) : byteS (tl s) k = some ((s[k].toNat : Int), k + 1) := by
 unfold byteS
 rw [List.getElem?_eq_getElem (by rw [tl_length]; exact h)]
 rfl
theorem byteS_out {s : ByteArray} {k : Nat} (h : ¬ k < s.size) : byteS (tl s) k = none := by
 unfold byteS
 rw [List.getElem?_eq_none (by rw [tl_length]; omega)]
 rfl
theorem cutS_none {t : List UInt8} {n : Nat} (h : lblS t n n = none) : cutS t n = none := by simp [cutS, h]
theorem cutS_some {t : List UInt8} {n : Nat} {l : List (List UInt8)} {m : Nat} (h : lblS t n n = some (l, m)) (h5 : l.length ≤ 5) : cutS t n = some (l, m) := by simp [cutS, h, h5]
theorem cutS_long {t : List UInt8} {n : Nat} (h : ∀ l m, lblS t n n = some (l, m) → 5 < l.length) : cutS t n = none := by
 unfold cutS
 cases h0 : lblS t n n with
 | none => rfl
 | some x => obtain ⟨l, m⟩ := x; have := h l m h0; rw [Option.bind_some, if_neg (by simp; omega)]
theorem lettersS_out {t : List UInt8} {k n : Nat} (hk : 0 < k) (hn : t.length < n + k) : lettersS t k n = none := by
 cases h : lettersS t k n with
 | none => rfl
 | some x =>
  obtain ⟨l, m⟩ := x
  have h1 := lettersS_bd k n h
  cases k with
  | zero => omega
  | succ k =>
   simp only [lettersS] at h
   cases h0 : letS t n with
   | none => rw [h0] at h; cases h
   | some y => have := letS_bd h0; omega
theorem letS_up {s : ByteArray} {k : Nat} (h : k < s.size) (h1 : 65 ≤ (s[k].toNat : Int)) (h2 : (s[k].toNat : Int) ≤ 90) : letS (tl s) k = some ((s[k].toNat : Int) + 32, k + 1) := by
 unfold letS; rw [byteS_at h, Option.bind_some, if_pos ⟨h1, h2⟩]
theorem letS_low {s : ByteArray} {k : Nat} (h : k < s.size) (h1 : 97 ≤ (s[k].toNat : Int)) (h2 : (s[k].toNat : Int) ≤ 122) : letS (tl s) k = some ((s[k].toNat : Int), k + 1) := by
 unfold letS; rw [byteS_at h, Option.bind_some, if_neg (by simp; omega), if_pos ⟨h1, h2⟩]
theorem letS_no {s : ByteArray} {k : Nat} (h : k < s.size) (h1 : ¬ (65 ≤ (s[k].toNat : Int) ∧ (s[k].toNat : Int) ≤ 90)) (h2 : ¬ (97 ≤ (s[k].toNat : Int) ∧ (s[k].toNat : Int) ≤ 122)) : letS (tl s) k = none := by
 unfold letS; rw [byteS_at h, Option.bind_some, if_neg h1, if_neg h2]
theorem conv_one (g : Nat) (w : World) (x : Int) (hx : 0 ≤ x ∧ x ≤ 255) (h : w.cell? ⟨g, 0, none⟩ = some (.int .u8 x)) :
  (convert 336 9 (.slice (some ⟨g, 0, none⟩) 1 1)).run Tryz.prog w = .ok (.string (mk [UInt8.ofNat x.toNat])) w := by
 refine run_convert_bytes_back w 336 9 5 ⟨g, 0, none⟩ 1 [UInt8.ofNat x.toNat] u137 u5 u9 fun j hj => ?_
 have hj0 : j = 0 := by simpa using hj
 subst hj0
 have e : (⟨g, 0, none⟩ : Addr).add 0 = ⟨g, 0, none⟩ := by simp [Addr.add]
 rw [e, h]
 have : ((UInt8.ofNat x.toNat).toNat : Int) = x := by rw [UInt8.toNat_ofNat']; omega
 simp only [List.getElem_cons_zero]
 rw [this]
theorem letters_next {t : List UInt8} {q r : Nat} {acc : List UInt8} {x : Int} {m : Nat} (h : letS t q = some (x, m)) :
  ((lettersS t (r + 1) q).map fun y => (acc ++ y.1, y.2)) = (lettersS t r m).map fun y => ((acc ++ [UInt8.ofNat x.toNat]) ++ y.1, y.2) := by
 rw [lettersS, h, Option.bind_some]
 cases lettersS t r m <;> simp
theorem letters_stop {t : List UInt8} {q r : Nat} {acc : List UInt8} (h : letS t q = none) : ((lettersS t (r + 1) q).map fun y => (acc ++ y.1, y.2)) = none := by
 rw [lettersS, h]; rfl
theorem mk_snoc (a : List UInt8) (b : UInt8) : mk a ++ mk [b] = mk (a ++ [b]) := by
 apply tl_inj; rw [tl_append, tl_mk', tl_mk', tl_mk']
theorem lab_next {w wr w1 w2 : World} {ss : List ByteArray} {l : List UInt8} {v v' : Value} {o : Obj}
  (hown : wr.ownsRow w.heap.size 9 1 v ss.length (ss.map Value.string)) (hb : Below w.heap.size w wr) (hb1 : Below wr.heap.size wr w1)
  (hown' : w2.ownsRow w.heap.size 9 1 v' (ss.length + 1) (ss.map Value.string ++ [.string (mk l)])) (hg : (w1.alloc o).grownBy w2 v.ownBlock) :
  w2.ownsRow w.heap.size 9 1 v' (ss ++ [mk l]).length ((ss ++ [mk l]).map Value.string) ∧ Below w.heap.size w w2 := by
 have hge := own_ge hown
 have hB := hb.trans (hb1.mono hb.size)
 exact ⟨by simpa using hown', (hB.alloc hB.size o).grown hg (by have := hB.size; simp; omega) hge⟩
set_option maxHeartbeats 4000000 in
theorem labels_ref (s : ByteArray) (hs : s.size ≤ 1000) : ∀ (n : Nat) (w : World), n ≤ s.size → Calls Tryz.prog 160 #[.string s, .int .i64 (n : Int)] w (CRes w (cutS (tl s) n)) := by
 intro n
 induction n using Nat.strongRecOn with
 | _ n ih =>
 intro w hn
 have HI : Hid (∀ p, p < n → ∀ w', Calls Tryz.prog 160 #[.string s, .int .i64 (p : Int)] w' (CRes w' (cutS (tl s) p))) := fun p hp w' => ih p hp w' (by omega)
 clear ih
 obtain ⟨i0, hi, hz0, hz1, hz2⟩ := info_parts info9
 have hu106 := u106
 go_enter Tryz.func160, Tryz.ntmps160
 go_wp2
 go_loopw [1, 6] (fun i v wr => ∃ (k : Nat) (ss : List ByteArray), k ≤ s.size ∧ n ≤ k ∧ ss.length ≤ 5 ∧ i = .int .i64 k ∧ wr.ownsRow w.heap.size 9 1 v ss.length (ss.map Value.string) ∧ Below w.heap.size w wr ∧
   Aside (lblS (tl s) n n = (lblS (tl s) n k).map fun x => (ss.map tl ++ x.1, x.2))) (fun i _ _ => s.size - (intOf i).toNat)
 case atStart => exact ⟨n, [], hn, Nat.le_refl _, by simp, rfl, World.ownsRow_nil _ _ _ _, Below.refl _ _, by show _ = _; simp⟩
 case round =>
  obtain ⟨k, ss, hk, hnk, h5, rfl, hown, hb, hsp⟩ := hrel
  obtain ⟨va, vc, rfl⟩ := own_shape hown
  by_cases hlt : k < s.size
  case neg =>
   have HN : Hid (cutS (tl s) n = none) := by show _ = _; exact cutS_none (by rw [hsp.out, lblS_none (byteS_out hlt)]; rfl)
   clear hown
   go_wp2
   go_ret2
   rw [HN.out]
   exact ⟨hb, rfl⟩
  case pos =>
  have h0 := byteS_at hlt
  have H0 : Hid (byteS (tl s) k = some ((s[k].toNat : Int), k + 1)) := h0
  clear h0
  have hb8 := s[k].toNat_lt
  by_cases a0 : (s[k].toNat : Int) = 0
  ·have HN : Hid (cutS (tl s) n = some (ss.map tl, k + 1)) := by
    show _ = _
    have h0 := H0.out
    rw [a0] at h0
    exact cutS_some (by rw [hsp.out, lblS_end h0]; simp) (by simpa using h5)
   have HS : StrSl wr _ ss := StrSl_of_owns hown
   clear hown
   go_wp2
   go_ret2
   rw [HN.out]
   exact ⟨hb, _, ss, rfl, rfl, HS⟩
  by_cases a1 : (s[k].toNat : Int) = 255
  ·have e1 : Hid (lblS (tl s) n n = (ptrS (tl s) n (k + 1)).map fun x => (ss.map tl ++ x.1, x.2)) := by
    show _ = _
    have h0 := H0.out
    rw [a1] at h0
    rw [hsp.out, lblS_ptr h0]
   by_cases hlt2 : k + 1 < s.size
   case neg =>
    have HN : Hid (cutS (tl s) n = none) := by show _ = _; exact cutS_none (by rw [e1.out, ptrS, byteS_out hlt2]; rfl)
    clear hown
    go_wp2
    go_ret2
    rw [HN.out]
    exact ⟨hb, rfl⟩
   case pos =>
   have hp8 := s[k + 1].toNat_lt
   by_cases hpn : n ≤ s[k + 1].toNat
   ·have HN : Hid (cutS (tl s) n = none) := by
     show _ = _
     refine cutS_none ?_
     rw [e1.out, ptrS, byteS_at hlt2, Option.bind_some]
     simp only [Int.toNat_natCast]
     rw [if_neg (by omega)]; rfl
    clear hown
    go_wp2
    go_ret2
    rw [HN.out]
    exact ⟨hb, rfl⟩
   have e2 : Hid (lblS (tl s) n n = (lblS (tl s) s[k + 1].toNat s[k + 1].toNat).map fun x => (ss.map tl ++ x.1, k + 2)) := by
    show _ = _
    rw [e1.out, ptrS, byteS_at hlt2, Option.bind_some]
    simp only [Int.toNat_natCast]
    rw [if_pos (by omega), Option.map_map]
    rfl
   have hcall := HI.out s[k + 1].toNat (by omega) wr
   cases hc : cutS (tl s) s[k + 1].toNat with
   | none =>
    have HN : Hid (cutS (tl s) n = none) := by
     show _ = _
     refine cutS_long fun l m hl => ?_
     rw [e2.out] at hl
     unfold cutS at hc
     cases hq : lblS (tl s) s[k + 1].toNat s[k + 1].toNat with
     | none => rw [hq] at hl; cases hl
     | some z =>
      rw [hq] at hl hc
      rw [Option.bind_some] at hc
      simp only [Option.map_some, Option.some.injEq, Prod.mk.injEq] at hl
      by_cases hz : z.1.length ≤ 5
      ·rw [if_pos hz] at hc; cases hc
      ·rw [← hl.1]; simp; omega
    go_wp2_with fail
    refine (CRes.no hcall hc).mono ?_
    rintro e w1 ⟨rfl, hb1⟩
    have hown1 := hown.below hb1
    clear hown
    go_wp2_with (first
     | (at_builtin; refine wpList_append_own_none rfl _ _ 42 rfl w.heap.size 9 i0 1 hu106 hi _ _ _ rfl hown1 rfl ?_))
    go_ret2
    rw [HN.out]
    exact ⟨hb.trans (hb1.mono hb.size), rfl⟩
   | some x =>
    obtain ⟨l2, m2⟩ := x
    have hq : lblS (tl s) s[k + 1].toNat s[k + 1].toNat = some (l2, m2) ∧ l2.length ≤ 5 := by
     have hc' := hc
     unfold cutS at hc'
     cases hq : lblS (tl s) s[k + 1].toNat s[k + 1].toNat with
     | none => rw [hq] at hc'; cases hc'
     | some z =>
      rw [hq, Option.bind_some] at hc'
      by_cases hz : z.1.length ≤ 5
      ·rw [if_pos hz] at hc'
       simp only [Option.some.injEq] at hc'
       subst hc'
       exact ⟨rfl, hz⟩
      ·rw [if_neg hz] at hc'; cases hc'
    obtain ⟨hq1, hq5⟩ := hq
    have HL : Hid (lblS (tl s) n n = some (ss.map tl ++ l2, k + 2)) := by show _ = _; rw [e2.out, hq1]; rfl
    clear hq1
    go_wp2_with fail
    refine (CRes.ok hcall hc).mono ?_
    rintro e w1 ⟨v2, ss2, rfl, hmap2, hsl2, hb1⟩
    have hown1 := hown.below hb1
    have HM2 : Hid (ss2.map tl = l2) := hmap2
    have hs2l : ss2.length ≤ 5 := by rw [← List.length_map (f := tl), hmap2]; exact hq5
    clear hmap2 hcall hc
    have hge := own_ge hown
    have hB1 := hb.trans (hb1.mono hb.size)
    rcases hsl2 with ⟨rfl, rfl⟩ | ⟨g2, o2', c2, rfl, hg2, hc2, hcell2⟩
    ·have HS := StrSl_of_owns hown1
     clear hown
     go_wp2_with (first
      | (at_builtin; refine wpList_append_own_none rfl _ _ 42 rfl w.heap.size 9 i0 1 hu106 hi _ _ _ rfl hown1 rfl ?_))
     go_ret2
     have hl0 : l2 = [] := by rw [← HM2.out]; rfl
     subst hl0
     rw [cutS_some HL.out (by simpa using h5)]
     exact ⟨hB1, _, ss, by go_num, by simp, HS⟩
    ·have HC2 : Hid (∀ j x, ss2[j]? = some x → w1.cell? ⟨g2, o2' + j, none⟩ = some (.string x)) := hcell2
     clear hcell2
     go_wp2_with (first
      | (at_builtin; refine wpList_append_own _ rfl _ _ 42 rfl w.heap.size 9 i0 (.string ByteArray.empty) 1 16 hu106 hi hz0 hz1 hz2 rfl (by decide) _ _ _ rfl hown1 ⟨g2, o2', none⟩ ss2.length c2 (ss2.map Value.string) rfl (by simp) ?c1 ?c2 ?c3 ?c4 ?c5 ?_))
     case c1 =>
      intro j u hj
      have e : (⟨g2, o2', none⟩ : Addr).add j = ⟨g2, o2' + j, none⟩ := by unfold Addr.add; split <;> simp_all
      rw [e]
      rw [List.getElem?_map] at hj
      cases hq : ss2[j]? with
      | none => rw [hq] at hj; cases hj
      | some q => rw [hq] at hj; simp at hj; subst hj; exact HC2.out j q hq
     case c2 => intro u hu; obtain ⟨q, _, rfl⟩ := List.mem_map.1 hu; rfl
     case c3 => unfold maxLen; omega
     case c4 => omega
     case c5 => have := hb.size; have := hb1.size; omega
     intro v' w3 hown' hgrow _
     have hB3 := hB1.grown hgrow hB1.size hge
     have HS : StrSl w3 v' (ss ++ ss2) := StrSl_of_owns (base := w.heap.size) (by simpa using hown')
     obtain ⟨v'a, v'c, rfl⟩ := own_shape hown'
     clear hown' hgrow hown hown1
     by_cases ht : ss.length + ss2.length ≤ 5
     ·go_wp2
      go_ret2
      rw [cutS_some HL.out (by rw [← HM2.out]; simp; omega)]
      exact ⟨hB3, _, ss ++ ss2, by go_num, by rw [← HM2.out]; simp, HS⟩
     ·go_wp2
      go_ret2
      rw [cutS_long (fun l m hl => by rw [HL.out] at hl; simp only [Option.some.injEq, Prod.mk.injEq] at hl; rw [← hl.1, ← HM2.out]; simp; omega)]
      exact ⟨hB3, rfl⟩
  have e1 : Hid (lblS (tl s) n n = ((labelS (tl s) (s[k].toNat : Int) (k + 1)).bind fun l => (lblS (tl s) n l.2).map fun x => (l.1 :: x.1, x.2)).map fun x => (ss.map tl ++ x.1, x.2)) := by
   show _ = _; rw [hsp.out, lblS_lab H0.out a0 a1]
  by_cases h6 : 6 < s[k].toNat
  ·have HN : Hid (cutS (tl s) n = none) := by show _ = _; exact cutS_none (by rw [e1.out, labelS, if_neg (by omega)]; rfl)
   clear hown
   go_wp2
   go_ret2
   rw [HN.out]
   exact ⟨hb, rfl⟩
  by_cases hend : s.size < k + 1 + s[k].toNat
  ·have HN : Hid (cutS (tl s) n = none) := by show _ = _; exact cutS_none (by rw [e1.out, labelS, if_pos (by omega), lettersS_out (by omega) (by rw [tl_length]; omega)]; rfl)
   clear hown
   go_wp2
   go_ret2
   rw [HN.out]
   exact ⟨hb, rfl⟩
  by_cases hl5 : 5 ≤ ss.length
  ·have HN : Hid (cutS (tl s) n = none) := by
    show _ = _
    refine cutS_long fun l m hl => ?_
    rw [e1.out] at hl
    cases h1 : labelS (tl s) (s[k].toNat : Int) (k + 1) with
    | none => rw [h1] at hl; cases hl
    | some y =>
     rw [h1, Option.bind_some] at hl
     cases h2 : lblS (tl s) n y.2 with
     | none => rw [h2] at hl; cases hl
     | some z =>
      rw [h2] at hl
      simp only [Option.map_some, Option.some.injEq, Prod.mk.injEq] at hl
      rw [← hl.1]; simp; omega
   have hl5' : ss.length = 5 := by omega
   clear hown
   go_wp2
   go_ret2
   rw [HN.out]
   exact ⟨hb, rfl⟩
  have hl5' : ¬ ss.length = 5 := by omega
  have hl5b : ((ss.length : Int) == 5) = false := by simp; omega
  obtain ⟨w0, rfl⟩ : ∃ w0, w0 = wr := ⟨_, rfl⟩
  go_wp2
  go_loopw [11, 12] (fun l i wr2 => ∃ (q r : Nat) (acc : List UInt8), acc.length + r ≤ s[k].toNat ∧ s[k].toNat ≤ acc.length + r ∧ k + 1 + acc.length ≤ q ∧ q ≤ k + 1 + acc.length ∧ l = .string (mk acc) ∧ i = .int .i64 q ∧ Below w0.heap.size w0 wr2 ∧
    Aside (lettersS (tl s) s[k].toNat (k + 1) = (lettersS (tl s) r q).map fun x => (acc ++ x.1, x.2))) (fun _ i _ => k + 1 + s[k].toNat - (intOf i).toNat)
  case atStart => exact ⟨k + 1, s[k].toNat, [], by simp, by simp, by simp, by simp, rfl, by go_num, Below.refl _ _, by show _ = _; simp⟩
  case round =>
   obtain ⟨q, r, acc, ha1, ha2, hq1, hq2, rfl, rfl, hb2, hlt3⟩ := hrel
   by_cases hr : r = 0
   ·subst hr
    have HL : Hid (labelS (tl s) (s[k].toNat : Int) (k + 1) = some (acc, q)) := by
     show _ = _
     rw [labelS, if_pos (by omega), Int.toNat_natCast, hlt3.out]
     simp [lettersS]
    have HX : Hid (lblS (tl s) n n = (lblS (tl s) n q).map fun x => ((ss ++ [mk acc]).map tl ++ x.1, x.2)) := by
     show _ = _
     rw [e1.out, HL.out, Option.bind_some]
     cases lblS (tl s) n q <;> simp [tl_mk']
    have hown1 := hown.below hb2
    have hB2 := hb.trans (hb2.mono hb.size)
    have hs2 := hB2.size
    go_wp2_with (first
     | (at_builtin; refine wpList_append_own _ rfl _ _ 42 rfl w.heap.size 9 i0 (.string ByteArray.empty) 1 16 hu106 hi hz0 hz1 hz2 rfl (by decide) _ _ _ rfl (hown1.alloc _) ⟨wr.heap.size, 0, none⟩ 1 1 [.string (mk acc)] rfl rfl ?d1 ?d2 ?d3 ?d4 ?d5 ?_))
    case d1 =>
     intro j u hj
     match j, hj with
     | 0, hj => simp at hj; subst hj; simp [Addr.add]
    case d2 => intro u hu; simp at hu; subst hu; rfl
    case d3 => unfold maxLen; omega
    case d4 => omega
    case d5 => simp; omega
    intro v' w3 hown' hgrow _
    have R3 := lab_next hown hb hb2 hown' hgrow
    clear hown' hgrow hown hown1
    go_wp2
    go_roundw
    case rel => exact ⟨q, ss ++ [mk acc], by omega, by omega, by simp; omega, by go_num, R3.1, R3.2, HX.out⟩
    case measure => simp [intOf]; omega
   ·have hqs : q < s.size := by omega
    have hc8 := s[q].toNat_lt
    have hacc : (mk acc).size ≤ 10 := by rw [mk_size]; omega
    obtain ⟨r', rfl⟩ : ∃ r', r = r' + 1 := ⟨r - 1, by omega⟩
    have hq9 : ¬ 9223372036854775807 < (mk acc).size + 1 := by omega
    by_cases hup : 65 ≤ (s[q].toNat : Int) ∧ (s[q].toNat : Int) ≤ 90
    ·obtain ⟨hup1, hup2⟩ := hup
     obtain ⟨b, hbe⟩ : ∃ b, b = UInt8.ofNat ((s[q].toNat : Int) + 32).toNat := ⟨_, rfl⟩
     have hcv := conv_one wr.heap.size (wr.alloc (.cells #[.int .u8 ((s[q].toNat : Int) + 32)] 5)) ((s[q].toNat : Int) + 32) (by omega) (by simp)
     have HX : Hid (lettersS (tl s) s[k].toNat (k + 1) = (lettersS (tl s) r' (q + 1)).map fun x => ((acc ++ [b]) ++ x.1, x.2)) := by
      show _ = _
      rw [hlt3.out, hbe]
      exact letters_next (letS_up hqs hup1 hup2)
     rw [← hbe] at hcv
     clear hbe
     go_wp2
     go_roundw
     case rel => exact ⟨q + 1, r', acc ++ [b], by simp; omega, by simp; omega, by simp; omega, by simp; omega, by rw [mk_snoc], by go_num, hb2.alloc hb2.size _, HX.out⟩
     case measure => simp [intOf]; omega
    by_cases hlo : 97 ≤ (s[q].toNat : Int) ∧ (s[q].toNat : Int) ≤ 122
    ·obtain ⟨hlo1, hlo2⟩ := hlo
     obtain ⟨b, hbe⟩ : ∃ b, b = UInt8.ofNat ((s[q].toNat : Int)).toNat := ⟨_, rfl⟩
     have hcv := conv_one wr.heap.size (wr.alloc (.cells #[.int .u8 ((s[q].toNat : Int))] 5)) ((s[q].toNat : Int)) (by omega) (by simp)
     have HX : Hid (lettersS (tl s) s[k].toNat (k + 1) = (lettersS (tl s) r' (q + 1)).map fun x => ((acc ++ [b]) ++ x.1, x.2)) := by
      show _ = _
      rw [hlt3.out, hbe]
      exact letters_next (letS_low hqs hlo1 hlo2)
     rw [← hbe] at hcv
     clear hbe
     go_wp2
     go_roundw
     case rel => exact ⟨q + 1, r', acc ++ [b], by simp; omega, by simp; omega, by simp; omega, by simp; omega, by rw [mk_snoc], by go_num, hb2.alloc hb2.size _, HX.out⟩
     case measure => simp [intOf]; omega
    have HN : Hid (cutS (tl s) n = none) := by
     show _ = _
     refine cutS_none ?_
     rw [e1.out, labelS, if_pos (by omega), Int.toNat_natCast, hlt3.out, letters_stop (letS_no hqs hup hlo)]
     rfl
    have hBx := hb.trans (hb2.mono hb.size)
    go_wp2
    all_goals
     go_ret2
     rw [HN.out]
     exact ⟨hBx, rfl⟩
end Go.Proofs.YtefdokkadckbbaaGreatDoor
end
