/- Package prlist: plain facts: what is told is told again. -/
import Derived.Test.YteeeioafhdkagaaPrE
import Derived.Test.YteeeioafhdkagaaPrH
namespace Go.Proofs.Yteeeioafhdkagaa
open Go.ChangeShapes Go.WideShapes Go.ChangeAt Go.RowKit
set_option linter.unusedVariables false
theorem keysS_front (g : Nat) (l : List Nat) (h : l.length ≤ 16) : frontE (keysS g l) = 0 := by
  unfold frontE
  rw [keysS_midV g l h, keysS_len, if_neg (by omega), if_neg (by omega), if_neg (by omega)]
theorem keysS_pk (g : Nat) (l : List Nat) (h : l.length ≤ 16) : pkE (keysS g l) = 0 := by
  unfold pkE
  rw [keysS_front g l h, if_neg (by omega), keysS_len, if_neg (by omega)]
theorem keysS_gen (g : Nat) (l : List Nat) (h : g < 4294967296) : beVal ((keysS g l).take 4) = g := by
  unfold keysS
  rw [List.append_assoc, List.take_left' (by simp), beVal_be4 h]
theorem catK_cons (x : Nat) (l : List Nat) : catK (x :: l) = be x 8 ++ catK l := by simp [catK]
theorem catK_at (l : List Nat) : ∀ (i : Nat) (hi : i < l.length), ((catK l).drop (8 * i)).take 8 = be (l[i]) 8 := by
  induction l with
  | nil => intro i hi; simp at hi
  | cons x l ih =>
    intro i hi
    rw [catK_cons]
    cases i with
    | zero => rw [Nat.mul_zero, List.drop_zero, List.take_left' (by simp)]; rfl
    | succ i =>
      have hi' : i < l.length := by simpa using hi
      rw [show 8 * (i + 1) = 8 + 8 * i by omega, ← List.drop_drop, List.drop_left' (by simp), ih i hi']
      rfl
theorem keysS_cut (g : Nat) (l : List Nat) (hl : ∀ x ∈ l, x < 18446744073709551616) : cutK ((keysS g l).drop 8) = l := by
  have e : (keysS g l).drop 8 = catK l := by unfold keysS; rw [List.drop_left' (by simp)]
  rw [e]
  unfold cutK
  rw [catK_len, show 8 * l.length / 8 = l.length by omega]
  apply List.ext_getElem
  · simp
  · intro i h1 h2
    simp only [List.getElem_map, List.getElem_range]
    rw [catK_at l i h2, beVal_be8 (hl _ (List.getElem_mem _))]
theorem holderS_front (g k t : Nat) : frontE (holderS g k t) = 0 := by
  have h := holderS_mid g k t
  have hl : 8 ≤ (holderS g k t).length := by rw [holderS_len]; split <;> omega
  unfold frontE
  rw [h, if_neg (by omega), if_neg (by omega), if_neg (by omega)]
theorem holderS_gen (g k t : Nat) (h : g < 4294967296) : beVal ((holderS g k t).take 4) = g := by
  unfold holderS
  split
  · rw [List.take_left' (by simp), beVal_be4 h]
  · simp only [List.append_assoc]
    rw [List.take_left' (by simp), beVal_be4 h]
theorem holder_told (g k t : Nat) (hg : g < 4294967296) (hk : k < 18446744073709551616) (ht : t ≤ 15) : phS (holderS g k t) = (g, if t = 0 then 0 else k, t, 0) := by
  unfold phS
  rw [holderS_front, if_neg (by omega), holderS_gen g k t hg]
  by_cases h0 : t = 0
  · have e : ((holderS g k t).drop 8).length = 0 := by rw [List.length_drop, holderS_len, if_pos h0]
    rw [if_pos e, if_pos h0, h0]
  · have el : ((holderS g k t).drop 8).length = 16 := by rw [List.length_drop, holderS_len, if_neg h0]
    have ed : (holderS g k t).drop 8 = be k 8 ++ (be 0 5 ++ (be t 1 ++ be 0 2)) := by
      unfold holderS
      rw [if_neg h0]
      rw [show be g 4 ++ be 16 4 ++ be k 8 ++ be 0 5 ++ be t 1 ++ be 0 2 = (be g 4 ++ be 16 4) ++ (be k 8 ++ (be 0 5 ++ (be t 1 ++ be 0 2))) by simp only [List.append_assoc], List.drop_left' (by simp)]
    rw [if_neg (by omega), if_neg h0]
    have e1 : ((holderS g k t).drop 8).take 8 = be k 8 := by rw [ed, List.take_left' (by simp)]
    have e2 : (((holderS g k t).drop 8).drop 8).take 5 = be 0 5 := by rw [ed, List.drop_left' (by simp), List.take_left' (by simp)]
    have e3 : ((holderS g k t).drop 8).drop 14 = be 0 2 := by
      rw [ed, show be k 8 ++ (be 0 5 ++ (be t 1 ++ be 0 2)) = (be k 8 ++ be 0 5 ++ be t 1) ++ be 0 2 by simp only [List.append_assoc], List.drop_left' (by simp)]
    have e4 : ((holderS g k t).drop 8).getD 13 0 = UInt8.ofNat t := by
      rw [ed, show be k 8 ++ (be 0 5 ++ (be t 1 ++ be 0 2)) = (be k 8 ++ be 0 5) ++ (be t 1 ++ be 0 2) by simp only [List.append_assoc]]
      have hb : be t 1 = [UInt8.ofNat t] := by simp [be, beTo]
      rw [hb]
      simp only [List.getD]
      rw [List.getElem?_append_right (by simp)]
      simp
    have e5 : (UInt8.ofNat t).toNat = t := by rw [UInt8.toNat_ofNat']; omega
    rw [e1, e2, e3, e4, e5, beVal_be8 hk, if_pos ⟨el, nought_be 5, nought_be 2, by omega, ht⟩]
end Go.Proofs.Yteeeioafhdkagaa
