/- Package ring: what Unpack tells of what Pack made; of noughts. -/
import Derived.Test.YtpfackjnnkjjdaaRg2
namespace Go.Proofs.Ytpfackjnnkjjdaa
open Go.ChangeShapes Go.WideShapes Go.ChangeAt Go.RowKit Go.Lib
set_option linter.unusedVariables false
set_option linter.unusedSimpArgs false
namespace Rg
open Crc
theorem fld_at (X Y : List UInt8) (x k : Nat) : fld (X ++ be x k ++ Y) X.length k = x % 256 ^ k := by
  unfold fld
  rw [List.append_assoc, List.drop_append_of_le_length (Nat.le_refl _), List.drop_of_length_le (Nat.le_refl _), List.nil_append, List.take_append_of_le_length (by simp), List.take_of_length_le (by simp), beVal_be]
theorem un_rg (n f p q : Nat) (hn : n < 18446744073709551616) (hf : f < 4294967296) (hp : p < q) (hq : q ≤ 65535) (l : List UInt8) (hl : l.length ≤ 480) : unS (rgS n f p q l) = ⟨n, f, p, q, l, 0⟩ := by
  have e1 : (rgS n f p q l).length = 512 := rgS_len hl
  unfold unS
  rw [if_neg (by omega)]
  have eo : openS (rgS n f p q l) = (rgP n f p q l, 0) := open_seal _
  rw [eo, if_neg (by simp)]
  have z : ∃ Z, Z = l ++ List.replicate (486 - l.length) (0 : UInt8) := ⟨_, rfl⟩
  obtain ⟨Z, hZ⟩ := z
  have a0 : rgP n f p q l = hd5 n f p q l.length ++ Z := by rw [rgP, rgB, hZ, List.append_assoc]
  have f4 : fld (rgP n f p q l) 4 8 = n := by
    have := fld_at mark (be f 4 ++ (be p 2 ++ (be q 2 ++ (be l.length 2 ++ Z)))) n 8
    rw [show mark ++ be n 8 ++ (be f 4 ++ (be p 2 ++ (be q 2 ++ (be l.length 2 ++ Z)))) = rgP n f p q l by rw [a0]; simp [hd5, hd4, hd3, hd2, hd1], show mark.length = 4 from rfl] at this
    rw [this]; exact Nat.mod_eq_of_lt (by omega)
  have f12 : fld (rgP n f p q l) 12 4 = f := by
    have := fld_at (hd1 n) (be p 2 ++ (be q 2 ++ (be l.length 2 ++ Z))) f 4
    rw [show hd1 n ++ be f 4 ++ (be p 2 ++ (be q 2 ++ (be l.length 2 ++ Z))) = rgP n f p q l by rw [a0]; simp [hd5, hd4, hd3, hd2], hd1_len] at this
    rw [this]; exact Nat.mod_eq_of_lt (by omega)
  have f16 : fld (rgP n f p q l) 16 2 = p := by
    have := fld_at (hd2 n f) (be q 2 ++ (be l.length 2 ++ Z)) p 2
    rw [show hd2 n f ++ be p 2 ++ (be q 2 ++ (be l.length 2 ++ Z)) = rgP n f p q l by rw [a0]; simp [hd5, hd4, hd3], hd2_len] at this
    rw [this]; exact Nat.mod_eq_of_lt (by omega)
  have f18 : fld (rgP n f p q l) 18 2 = q := by
    have := fld_at (hd3 n f p) (be l.length 2 ++ Z) q 2
    rw [show hd3 n f p ++ be q 2 ++ (be l.length 2 ++ Z) = rgP n f p q l by rw [a0]; simp [hd5, hd4], hd3_len] at this
    rw [this]; exact Nat.mod_eq_of_lt (by omega)
  have f20 : fld (rgP n f p q l) 20 2 = l.length := by
    have := fld_at (hd4 n f p q) Z l.length 2
    rw [show hd4 n f p q ++ be l.length 2 ++ Z = rgP n f p q l by rw [a0, hd5], hd4_len] at this
    rw [this]; exact Nat.mod_eq_of_lt (by omega)
  have h22 : (rgP n f p q l).drop 22 = Z := by
    rw [a0, List.drop_append_of_le_length (by rw [hd5_len]; omega), List.drop_of_length_le (by rw [hd5_len]; omega), List.nil_append]
  have hno : nought ((rgP n f p q l).drop (22 + l.length)) = true := by
    rw [← List.drop_drop, h22, hZ, List.drop_append_of_le_length (Nat.le_refl _), List.drop_of_length_le (Nat.le_refl _)]
    simp [nought]
  have hm : (rgP n f p q l).take 4 = mark := by
    rw [a0]
    simp [hd5, hd4, hd3, hd2, hd1, mark]
  unfold unB
  rw [f16, f18, f20, if_neg (by rw [hm, hno]; simp; omega), f4, f12, h22, hZ, List.take_append_of_le_length (Nat.le_refl _), List.take_of_length_le (Nat.le_refl _)]
/-- Noughts are no part. -/
theorem un_zero : (unS (List.replicate 512 0)).err ≠ 0 := by decide +kernel
end Rg
end Go.Proofs.Ytpfackjnnkjjdaa
