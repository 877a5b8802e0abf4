/- The library's Split at a dot gives the labels. -/
import Derived.Test.YtefdokkadckbbaaGreatDoorS1
import Derived.Lib.Split
namespace Go.Proofs.YtefdokkadckbbaaGreatDoor
open Go

theorem cutAcc_c (cur r : List UInt8) (c : UInt8) : cutAcc cur (c :: r) = if c.toNat = 46 then cur :: cutAcc [] r else cutAcc (cur ++ [c]) r := rfl

theorem index_dot (l : List UInt8) : (Lib.index l [46] = -1 ∧ ∀ cur, cutAcc cur l = [cur ++ l]) ∨
    ∃ i : Nat, Lib.index l [46] = i ∧ ∀ cur, cutAcc cur l = (cur ++ l.take i) :: cutAcc [] (l.drop (i + 1)) := by
  induction l with
  | nil => left; exact ⟨by simp [Lib.index], fun cur => by simp [cutAcc]⟩
  | cons b r ih =>
    by_cases hb : b = 46
    · right
      subst hb
      refine ⟨0, by simp [Lib.index], fun cur => ?_⟩
      rw [cutAcc_c, if_pos (by decide)]
      simp
    · have hp : ([46] : List UInt8).isPrefixOf (b :: r) = false := by
        simp [List.isPrefixOf]; exact fun e => hb e.symm
      have hn : ¬ b.toNat = 46 := fun e => hb (UInt8.toNat_inj.1 (by rw [e]; rfl))
      rcases ih with ⟨h1, h2⟩ | ⟨i, h1, h2⟩
      · left
        refine ⟨?_, fun cur => ?_⟩
        · unfold Lib.index; rw [hp, h1]; simp
        · rw [cutAcc_c, if_neg hn, h2]; simp
      · right
        refine ⟨i + 1, ?_, fun cur => ?_⟩
        · unfold Lib.index
          rw [hp, h1]
          simp
        · rw [cutAcc_c, if_neg hn, h2]; simp

theorem splitK_dot : ∀ (n : Nat) (l : List UInt8), l.length ≤ n → Lib.splitK [46] 0 (Lib.count l [46]) l = cutAcc [] l := by
  intro n
  induction n with
  | zero =>
    intro l h
    have : l = [] := List.length_eq_zero_iff.1 (by omega)
    subst this
    decide
  | succ n ih =>
    intro l h
    rcases index_dot l with ⟨h1, h2⟩ | ⟨i, h1, h2⟩
    · rw [Lib.count_miss h1, h2]; simp [Lib.splitK]
    · rw [Lib.count_hit (by simp) h1, Nat.add_comm 1, Lib.splitK, if_neg (by rw [h1]; simp), h2, h1]
      have e : ((i : Int)).toNat = i := by omega
      rw [e]
      simp only [Nat.add_zero, List.nil_append, List.length_cons, List.length_nil, Nat.zero_add]
      rw [ih _ (by
        have := Lib.index_room l [46] (by omega)
        simp at this
        rw [List.length_drop]; omega)]

theorem splitB_dot (s : ByteArray) : (Lib.splitB ⟨#[46]⟩ 0 (Lib.countB s ⟨#[46]⟩) s).map tl = cutAcc [] (tl s) := by
  have := Lib.splitB_data ⟨#[46]⟩ 0 (Lib.countB s ⟨#[46]⟩) s
  rw [show (fun x : ByteArray => x.data.toList) = tl from rfl] at this
  rw [this]
  exact splitK_dot _ _ (Nat.le_refl _)
end Go.Proofs.YtefdokkadckbbaaGreatDoor
