/- S1 S2 -/
import Derived.WalkKit
import Derived.Lib.Split
section
namespace Go.Proofs.YtefdokkadckbbaaGreatDoor
def tl (s : ByteArray) : List UInt8 := s.data.toList
theorem tl_length (s : ByteArray) : (tl s).length = s.size := rfl
theorem tl_inj {a b : ByteArray} (h : tl a = tl b) : a = b := by
 cases a; cases b; simp [tl] at h; rw [h]
theorem tl_mk (l : List UInt8) : tl ⟨l.toArray⟩ = l := by simp [tl]
def low (c : UInt8) : Bool := decide (97 ≤ (c.toNat : Int) ∧ (c.toNat : Int) ≤ 122)
def labOk (l : List UInt8) : Bool := decide (1 ≤ l.length ∧ l.length ≤ 6) && l.all low
def cutAcc : List UInt8 → List UInt8 → List (List UInt8)
 | cur, [] => [cur]
 | cur, c :: r => if c.toNat = 46 then cur :: cutAcc [] r else cutAcc (cur ++ [c]) r
def labs (s : List UInt8) : List (List UInt8) := if s = [] then [] else cutAcc [] s
def nameOk (s : List UInt8) : Bool := decide ((labs s).length ≤ 5) && (labs s).all labOk
def labW (l : List UInt8) : List UInt8 := UInt8.ofNat (((l.length : Int)) % 256).toNat :: l
def nameW (s : List UInt8) : List UInt8 := ((labs s).map labW).flatten ++ [0]
def byte (n : Int) : UInt8 := UInt8.ofNat (n % 256).toNat
structure Rec where
 name : ByteArray
 ty : Int
 ttl : Int
 num : Int
 target : ByteArray
def saysOk (r : Rec) : Bool :=
 if r.ty = 1 then decide (0 ≤ r.num ∧ r.num ≤ 255) && (tl r.target).isEmpty
 else if r.ty = 2 ∨ r.ty = 3 then decide (r.num = 0) && nameOk (tl r.target)
 else if r.ty = 4 then decide (r.num = 0) && (tl r.target).isEmpty
 else false
def recOk (r : Rec) : Bool := nameOk (tl r.name) && decide (1 ≤ r.ttl ∧ r.ttl ≤ 1000) && saysOk r
def saidW (r : Rec) : List UInt8 := if r.ty = 1 then [byte r.num] else if r.ty = 2 ∨ r.ty = 3 then nameW (tl r.target) else []
def recW (r : Rec) : List UInt8 := nameW (tl r.name) ++ [byte r.ty, byte r.ttl, byte (r.ttl / 256)] ++ saidW r
def listOk (l : List Rec) : Bool := decide (l.length ≤ 10) && l.all recOk
def listW (l : List Rec) : List UInt8 := (l.map recW).flatten
structure Msg where
 id : Int
 reply : Bool
 code : Int
 name : ByteArray
 ty : Int
 answer : List Rec
 servers : List Rec
 more : List Rec
def numsOk (m : Msg) : Bool := decide (0 ≤ m.id ∧ m.id ≤ 65535) && decide (0 ≤ m.code ∧ m.code ≤ 3) && decide (0 ≤ m.ty ∧ m.ty ≤ 4)
def msgOk (m : Msg) : Bool := numsOk m && nameOk (tl m.name) && listOk m.answer && listOk m.servers && listOk m.more
def msgW (m : Msg) : List UInt8 :=
 [byte m.id, byte (m.id / 256), if m.reply then 114 else 113, byte m.code] ++ nameW (tl m.name) ++ [byte m.ty, byte m.answer.length, byte m.servers.length, byte m.more.length] ++ listW m.answer ++ listW m.servers ++ listW m.more
theorem cutAcc_ne (cur s : List UInt8) : cutAcc cur s ≠ [] := by
 induction s generalizing cur with
 | nil => simp [cutAcc]
 | cons c r ih => unfold cutAcc; split <;> simp [ih]
theorem cutAcc_sum (cur s : List UInt8) : ((cutAcc cur s).map List.length).sum + (cutAcc cur s).length = cur.length + s.length + 1 := by
 induction s generalizing cur with
 | nil => simp [cutAcc]
 | cons c r ih =>
  unfold cutAcc
  split
  ·have := ih []
   simp at this ⊢
   omega
  ·have := ih (cur ++ [c])
   simp at this ⊢
   omega
theorem labs_sum (s : List UInt8) : ((labs s).map List.length).sum + (labs s).length ≤ s.length + 1 := by
 unfold labs
 split
 ·simp
 ·have := cutAcc_sum [] s; simp at this ⊢; omega
theorem sum_le6 (xs : List (List UInt8)) (h : xs.all labOk = true) : (xs.map List.length).sum ≤ 6 * xs.length := by
 induction xs with
 | nil => simp
 | cons x r ih =>
  simp at h
  have := ih (by simpa using h.2)
  have h1 := h.1
  unfold labOk at h1
  simp at h1
  simp; omega
theorem nameOk_size (s : List UInt8) (h : nameOk s = true) : s.length ≤ 34 := by
 unfold nameOk at h
 simp only [Bool.and_eq_true, decide_eq_true_eq] at h
 have h6 := sum_le6 _ h.2
 by_cases e : s = []
 ·subst e; simp
 ·have e1 : labs s = cutAcc [] s := by unfold labs; rw [if_neg e]
  have hs := cutAcc_sum [] s
  rw [e1] at h6 h
  simp at hs
  omega
theorem flatten_labW (xs : List (List UInt8)) : ((xs.map labW).flatten).length = (xs.map List.length).sum + xs.length := by
 induction xs with
 | nil => rfl
 | cons x r ih => simp [labW] at ih ⊢; omega
theorem nameW_length (s : List UInt8) (h : nameOk s = true) : (nameW s).length ≤ 36 := by
 have h1 := nameOk_size s h
 have h2 := labs_sum s
 unfold nameW
 rw [List.length_append, flatten_labW]
 simp; omega
theorem recW_length (r : Rec) (h : recOk r = true) : (recW r).length ≤ 75 := by
 unfold recOk saysOk at h
 simp only [Bool.and_eq_true] at h
 have h1 := nameW_length _ h.1.1
 unfold recW saidW
 rw [List.length_append, List.length_append]
 split
 ·simp; omega
 ·rename_i ht
  split
  ·rename_i h3
   have hs := h.2
   rw [if_neg ht, if_pos h3, Bool.and_eq_true] at hs
   have := nameW_length _ hs.2
   simp; omega
  ·simp; omega
theorem listW_length (l : List Rec) (h : l.all recOk = true) : (listW l).length ≤ 75 * l.length := by
 induction l with
 | nil => simp [listW]
 | cons r l ih =>
  simp at h
  have h1 := recW_length r h.1
  have h2 := ih (by simpa using h.2)
  simp [listW] at h2 ⊢; omega
end Go.Proofs.YtefdokkadckbbaaGreatDoor
end
section
namespace Go.Proofs.YtefdokkadckbbaaGreatDoor
open Go
theorem cutAcc_c (cur r : List UInt8) (c : UInt8) : cutAcc cur (c :: r) = if c.toNat = 46 then cur :: cutAcc [] r else cutAcc (cur ++ [c]) r := rfl
theorem index_dot (l : List UInt8) : (Lib.index l [46] = -1 ∧ ∀ cur, cutAcc cur l = [cur ++ l]) ∨
  ∃ i : Nat, Lib.index l [46] = i ∧ ∀ cur, cutAcc cur l = (cur ++ l.take i) :: cutAcc [] (l.drop (i + 1)) := by
 induction l with
 | nil => left; exact ⟨by simp [Lib.index], fun cur => by simp [cutAcc]⟩
 | cons b r ih =>
  by_cases hb : b = 46
  ·right
   subst hb
   refine ⟨0, by simp [Lib.index], fun cur => ?_⟩
   rw [cutAcc_c, if_pos (by decide)]
   simp
  ·have hp : ([46] : List UInt8).isPrefixOf (b :: r) = false := by
    simp [List.isPrefixOf]; exact fun e => hb e.symm
   have hn : ¬ b.toNat = 46 := fun e => hb (UInt8.toNat_inj.1 (by rw [e]; rfl))
   rcases ih with ⟨h1, h2⟩ | ⟨i, h1, h2⟩
   ·left
    refine ⟨?_, fun cur => ?_⟩
    ·unfold Lib.index; rw [hp, h1]; simp
    ·rw [cutAcc_c, if_neg hn, h2]; simp
   ·right
    refine ⟨i + 1, ?_, fun cur => ?_⟩
    ·unfold Lib.index
     rw [hp, h1]
     simp
    ·rw [cutAcc_c, if_neg hn, h2]; simp
theorem splitK_dot : ∀ (n : Nat) (l : List UInt8), l.length ≤ n → Lib.splitK [46] 0 (Lib.count l [46]) l = cutAcc [] l := by
 intro n
 induction n with
 | zero =>
  intro l h
  have : l = [] := List.length_eq_zero_iff.1 (by omega)
  subst this
  decide
 | succ n ih =>
  intro l h
  rcases index_dot l with ⟨h1, h2⟩ | ⟨i, h1, h2⟩
  ·rw [Lib.count_miss h1, h2]; simp [Lib.splitK]
  ·rw [Lib.count_hit (by simp) h1, Nat.add_comm 1, Lib.splitK, if_neg (by rw [h1]; simp), h2, h1]
   have e : ((i : Int)).toNat = i := by omega
   rw [e]
   simp only [Nat.add_zero, List.nil_append, List.length_cons, List.length_nil, Nat.zero_add]
   rw [ih _ (by
    have := Lib.index_room l [46] (by omega)
    simp at this
    rw [List.length_drop]; omega)]
theorem splitB_dot (s : ByteArray) : (Lib.splitB ⟨#[46]⟩ 0 (Lib.countB s ⟨#[46]⟩) s).map tl = cutAcc [] (tl s) := by
 have := Lib.splitB_data ⟨#[46]⟩ 0 (Lib.countB s ⟨#[46]⟩) s
 rw [show (fun x : ByteArray => x.data.toList) = tl from rfl] at this
 rw [this]
 exact splitK_dot _ _ (Nat.le_refl _)
end Go.Proofs.YtefdokkadckbbaaGreatDoor
end
