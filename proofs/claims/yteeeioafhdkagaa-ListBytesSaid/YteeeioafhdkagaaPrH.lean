/- Package prlist: plain facts of a holder's bytes. -/
import Derived.Test.YteeeioafhdkagaaPrC
namespace Go.Proofs.Yteeeioafhdkagaa
open Go.ChangeShapes Go.WideShapes Go.ChangeAt Go.RowKit
set_option linter.unusedVariables false
theorem frontE_len {l : List UInt8} (h : frontE l = 0) : 8 ≤ l.length ∧ beVal ((l.drop 4).take 4) = l.length - 8 := by
  unfold frontE at h
  by_cases h8 : l.length < 8
  · rw [if_pos h8] at h; cases h
  · rw [if_neg h8] at h
    generalize beVal ((l.drop 4).take 4) = m at *
    by_cases h1 : l.length - 8 < m
    · rw [if_pos h1] at h; cases h
    · rw [if_neg h1] at h
      by_cases h2 : m < l.length - 8
      · rw [if_pos h2] at h; cases h
      · omega
theorem head_back {l : List UInt8} (h8 : 8 ≤ l.length) : be (beVal (l.take 4)) 4 ++ be (beVal ((l.drop 4).take 4)) 4 ++ l.drop 8 = l := by
  rw [be_beVal (by rw [List.length_take]; omega), be_beVal (by rw [List.length_take, List.length_drop]; omega), List.append_assoc]
  have e : (l.drop 4).take 4 ++ l.drop 8 = l.drop 4 := by
    have := List.take_append_drop 4 (l.drop 4)
    rw [List.drop_drop] at this
    exact this
  rw [e, List.take_append_drop]
theorem nought_back {l : List UInt8} {n : Nat} (h : nought l = true) (hl : l.length = n) : be 0 n = l := by
  rw [be_zero, ← hl]
  exact (nought_is h).symm
theorem holder_back {l : List UInt8} {g k t : Nat} (h : phS l = (g, k, t, 0)) : holderS g k t = l ∧ g < 4294967296 ∧ k < 18446744073709551616 ∧ t ≤ 15 := by
  unfold phS at h
  by_cases hF : frontE l = 0
  · rw [if_neg (by omega)] at h
    obtain ⟨h8, hm⟩ := frontE_len hF
    have hb := head_back h8
    have hg : beVal (l.take 4) < 4294967296 := beVal_lt' 4 _ (by simp; omega)
    have hdl : (l.drop 8).length = l.length - 8 := List.length_drop ..
    rw [hm] at hb
    by_cases h0 : (l.drop 8).length = 0
    · rw [if_pos h0] at h
      obtain ⟨rfl, rfl, rfl⟩ : beVal (l.take 4) = g ∧ 0 = k ∧ 0 = t := by simpa using h
      refine ⟨?_, hg, by omega, by omega⟩
      unfold holderS
      rw [if_pos rfl]
      rw [show l.length - 8 = 0 by omega, List.eq_nil_of_length_eq_zero h0, List.append_nil] at hb
      exact hb
    · rw [if_neg h0] at h
      by_cases hc : (l.drop 8).length = 16 ∧ nought (((l.drop 8).drop 8).take 5) = true ∧ nought ((l.drop 8).drop 14) = true ∧ 1 ≤ ((l.drop 8).getD 13 0).toNat ∧ ((l.drop 8).getD 13 0).toNat ≤ 15
      · rw [if_pos hc] at h
        obtain ⟨h16, n1, n2, t1, t2⟩ := hc
        obtain ⟨rfl, rfl, rfl⟩ : beVal (l.take 4) = g ∧ beVal ((l.drop 8).take 8) = k ∧ ((l.drop 8).getD 13 0).toNat = t := by simpa using h
        refine ⟨?_, hg, beVal_lt' 8 _ (by simp; omega), t2⟩
        unfold holderS
        rw [if_neg (by omega)]
        rw [show l.length - 8 = 16 by omega] at hb
        conv => rhs; rw [← hb]
        generalize l.drop 8 = r at *
        rw [nought_back n1 (by rw [List.length_take, List.length_drop]; omega), nought_back n2 (by rw [List.length_drop]; omega), be_beVal (l := r.take 8) (by rw [List.length_take]; omega)]
        have e13 : be ((r.getD 13 0).toNat) 1 = [r.getD 13 0] := by
          have h := be_beVal (l := [r.getD 13 0]) (n := 1) rfl
          rw [show beVal [r.getD 13 0] = (r.getD 13 0).toNat by simp [beVal]] at h
          exact h
        rw [e13]
        have h13 : 13 < r.length := by omega
        have e2 : r.getD 13 0 = r[13] := by simp [List.getD, h13]
        have e3 : r = r.take 8 ++ (r.drop 8).take 5 ++ [r.getD 13 0] ++ r.drop 14 := by
          have a1 := List.take_append_drop 13 r
          have a2 : r.drop 13 = r[13] :: r.drop 14 := List.drop_eq_getElem_cons h13
          have a3 : r.take 13 = r.take 8 ++ (r.drop 8).take 5 := by rw [show 13 = 8 + 5 from rfl, List.take_add]
          rw [e2, ← a3, List.append_assoc, List.singleton_append, ← a2, a1]
        simp only [List.append_assoc] at e3 ⊢
        rw [← e3]
      · rw [if_neg hc] at h
        have := congrArg (fun q => q.2.2.2) h
        simp at this
  · rw [if_pos hF] at h
    have := congrArg (fun q => q.2.2.2) h
    simp at this
    exact absurd this hF
theorem holderS_mid (g k t : Nat) : beVal (((holderS g k t).drop 4).take 4) = (holderS g k t).length - 8 := by
  rw [holderS_len]
  unfold holderS
  by_cases h : t = 0
  · rw [if_pos h, if_pos h, List.drop_left' (by simp), List.take_of_length_le (by simp), beVal_be4 (by omega)]
  · rw [if_neg h, if_neg h]
    have e : be g 4 ++ be 16 4 ++ be k 8 ++ be 0 5 ++ be t 1 ++ be 0 2 = be g 4 ++ (be 16 4 ++ (be k 8 ++ be 0 5 ++ be t 1 ++ be 0 2)) := by simp only [List.append_assoc]
    rw [e, List.drop_left' (by simp), List.take_left' (by simp), beVal_be4 (by omega)]
theorem holder_cut (g k t d : Nat) (hd : d < (holderS g k t).length) : phS ((holderS g k t).take d) = (0, 0, 0, 3) := by
  have hl : 8 ≤ (holderS g k t).length := by rw [holderS_len]; split <;> omega
  have h := cut_short (l := holderS g k t) (n := (holderS g k t).length - 8) (holderS_mid g k t) (by omega) hd
  unfold phS
  rw [h, if_pos (by omega)]
theorem and_u8f (y : UInt8) : bits .and .u8 (y.toNat : Int) 15 = ((y.toNat % 16 : Nat) : Int) := by
  have h1 : (BitVec.ofInt 8 (y.toNat : Int)).toNat = y.toNat := by
    rw [BitVec.ofInt_natCast, BitVec.toNat_ofNat]; exact Nat.mod_eq_of_lt y.toNat_lt
  show IntKind.u8.wrap ((BitVec.ofInt 8 (y.toNat : Int) &&& BitVec.ofInt 8 15).toNat : Int) = _
  rw [BitVec.toNat_and, h1, show (BitVec.ofInt 8 15).toNat = 2 ^ 4 - 1 from rfl, Nat.and_two_pow_sub_one_eq_mod]
  rw [IntKind.wrap_u8]
  omega
end Go.Proofs.Yteeeioafhdkagaa
