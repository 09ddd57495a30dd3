/- Bits turned in a row of bytes, one by one: plain facts (no program is named but through Base). -/
import Derived.Test.YtafpaigifemjjaaCrcF
import Derived.Test.YtafpaigifemjjaaKeep
namespace Go.Proofs.Ytafpaigifemjjaa.Flips
open Go.ChangeShapes Go.WideShapes Go.ChangeAt Go.RowKit Crc
set_option linter.unusedVariables false
theorem leV_bit : ∀ (L : List UInt8) (q : Nat), (leV L).testBit q = (L.getD (q / 8) 0).toNat.testBit (q % 8) := by
  intro L
  induction L with
  | nil => intro q; simp [leV]
  | cons x L ih =>
    intro q
    have h2 : leV (x :: L) = x.toNat + 256 * leV L := rfl
    rw [h2, show x.toNat + 256 * leV L = 2 ^ 8 * leV L + x.toNat by omega, Nat.testBit_two_pow_mul_add (leV L) (show x.toNat < 2 ^ 8 from x.toNat_lt)]
    by_cases hq : q < 8
    · rw [if_pos hq, show q / 8 = 0 by omega, show q % 8 = q by omega]; rfl
    · rw [if_neg hq, ih, show q / 8 = (q - 8) / 8 + 1 by omega, show (q - 8) % 8 = q % 8 by omega]; rfl
theorem pow_lt8 {k : Nat} (h : k < 8) : 2 ^ k < 256 := Nat.pow_lt_pow_right (a := 2) (by omega) (show k < 8 from h)
theorem xor_nat (x : UInt8) {k : Nat} (h : k < 8) : (x ^^^ UInt8.ofNat (2 ^ k)).toNat = x.toNat ^^^ 2 ^ k := by
  rw [UInt8.toNat_xor, UInt8.toNat_ofNat', Nat.mod_eq_of_lt (pow_lt8 h)]
/-- One bit turned in one byte: the number's bit is turned. -/
theorem leV_set (L : List UInt8) (d : Nat) (h : d / 8 < L.length) : leV (L.set (d / 8) (L[d / 8] ^^^ UInt8.ofNat (2 ^ (d % 8)))) = leV L ^^^ 2 ^ d := by
  apply Nat.eq_of_testBit_eq
  intro q
  rw [leV_bit, Nat.testBit_xor, leV_bit]
  by_cases hj : q / 8 = d / 8
  · have e1 : (L.set (d / 8) (L[d / 8] ^^^ UInt8.ofNat (2 ^ (d % 8)))).getD (q / 8) 0 = L[d / 8] ^^^ UInt8.ofNat (2 ^ (d % 8)) := by rw [hj]; simp [List.getD, h]
    have e2 : L.getD (q / 8) 0 = L[d / 8] := by rw [hj]; simp [List.getD, h]
    rw [e1, e2, xor_nat _ (Nat.mod_lt _ (by omega)), Nat.testBit_xor, Nat.testBit_two_pow, Nat.testBit_two_pow]
    congr 1
    rw [decide_eq_decide]
    omega
  · have e1 : (L.set (d / 8) (L[d / 8] ^^^ UInt8.ofNat (2 ^ (d % 8)))).getD (q / 8) 0 = L.getD (q / 8) 0 := by
      simp only [List.getD, List.getElem?_set]
      rw [if_neg (fun e => hj e.symm)]
    rw [e1, Nat.testBit_two_pow, decide_eq_false (by intro e; subst e; exact hj rfl), Bool.xor_false]
theorem mod_next0 (P i : Nat) (h : P / 2 ^ i % 2 = 0) : P % 2 ^ (i + 1) = P % 2 ^ i := by
  rw [Nat.mod_pow_succ, h, Nat.mul_zero, Nat.add_zero]
theorem mod_next1 (P i : Nat) (h : P / 2 ^ i % 2 = 1) : P % 2 ^ (i + 1) = P % 2 ^ i ^^^ 2 ^ i := by
  rw [Nat.mod_pow_succ, h, Nat.mul_one]
  apply Nat.eq_of_testBit_eq
  intro q
  rw [Nat.add_comm, show 2 ^ i + P % 2 ^ i = 2 ^ i * 1 + P % 2 ^ i by omega, Nat.testBit_two_pow_mul_add 1 (Nat.mod_lt P (Nat.two_pow_pos i)), Nat.testBit_xor, Nat.testBit_two_pow, Nat.testBit_mod_two_pow]
  by_cases hq : q < i
  · simp [hq, show i ≠ q by omega]
  · by_cases he : i = q
    · subst he; simp
    · rw [if_neg hq, decide_eq_false hq, decide_eq_false he]
      have : (1 : Nat).testBit (q - i) = false := Nat.testBit_lt_two_pow (Nat.lt_of_lt_of_le (by omega : 1 < 2 ^ 1) (Nat.pow_le_pow_right (by omega) (show 1 ≤ q - i by omega)))
      rw [this]; rfl
theorem mod_pos1 (P i : Nat) (h : P / 2 ^ i % 2 = 1) : P % 2 ^ (i + 1) ≠ 0 := by
  rw [Nat.mod_pow_succ, h, Nat.mul_one]
  have := Nat.two_pow_pos i
  omega
theorem xor_val (x : UInt8) {k : Nat} (h : k < 8) : bits BinOp.xor IntKind.u8 (x.toNat : Int) (2 ^ k % 256) = ((x ^^^ UInt8.ofNat (2 ^ k)).toNat : Int) := by
  have h1 := pow_lt8 h
  have h2 := u8_xor_nat x.toNat (2 ^ k) x.toNat_lt h1
  rw [xor_nat x h, ← h2]
  congr 1
  have h3 : ((2 : Int) ^ k) = ((2 ^ k : Nat) : Int) := by simp
  rw [h3]
  generalize 2 ^ k = q at *
  omega
theorem bs_set (L : List UInt8) (j : Nat) (y : UInt8) : (bs L).set j (.int .u8 (y.toNat : Int)) = bs (L.set j y) := by simp [bs, List.map_set]
theorem xor_mul (a b k : Nat) : (a ^^^ b) * 2 ^ k = a * 2 ^ k ^^^ b * 2 ^ k := by
  apply Nat.eq_of_testBit_eq
  intro q
  rw [Nat.testBit_mul_two_pow, Nat.testBit_xor, Nat.testBit_xor, Nat.testBit_mul_two_pow, Nat.testBit_mul_two_pow]
  by_cases h : k ≤ q <;> simp [h]


theorem xor_mod (a b n : Nat) : (a ^^^ b) % 2 ^ n = a % 2 ^ n ^^^ b % 2 ^ n := by
  apply Nat.eq_of_testBit_eq
  intro q
  simp only [Nat.testBit_mod_two_pow, Nat.testBit_xor]
  by_cases h : q < n <;> simp [h]
theorem xor_div (a b n : Nat) : (a ^^^ b) / 2 ^ n = a / 2 ^ n ^^^ b / 2 ^ n := by
  apply Nat.eq_of_testBit_eq
  intro q
  simp only [Nat.testBit_div_two_pow, Nat.testBit_xor]
theorem leV_append (a b : List UInt8) : leV (a ++ b) = leV a + 2 ^ (8 * a.length) * leV b := by
  induction a with
  | nil => simp [leV]
  | cons x a ih =>
    have h1 : ∀ L, leV (x :: L) = x.toNat + 256 * leV L := fun _ => rfl
    rw [List.cons_append, h1, h1, ih, List.length_cons, show 8 * (a.length + 1) = 8 + 8 * a.length by omega, Nat.pow_add]
    generalize 2 ^ (8 * a.length) = z
    generalize leV b = y
    show x.toNat + 256 * (leV a + z * y) = x.toNat + 256 * leV a + 256 * z * y
    rw [Nat.mul_add, Nat.mul_assoc]; omega
theorem leV_lt2 (l : List UInt8) : leV l < 2 ^ (8 * l.length) := by
  have h := leV_lt l
  rw [show (256 : Nat) = 2 ^ 8 from rfl, ← Nat.pow_mul] at h
  exact h
theorem leV_take (l : List UInt8) (n : Nat) (h : n ≤ l.length) : leV (l.take n) = leV l % 2 ^ (8 * n) := by
  have h1 := leV_append (l.take n) (l.drop n)
  have hl : (l.take n).length = n := by simp; omega
  rw [List.take_append_drop, hl] at h1
  have h2 := leV_lt2 (l.take n)
  rw [hl] at h2
  rw [h1, Nat.add_mul_mod_self_left, Nat.mod_eq_of_lt h2]
theorem leV_dropn (l : List UInt8) (n : Nat) (h : n ≤ l.length) : leV (l.drop n) = leV l / 2 ^ (8 * n) := by
  have h1 := leV_append (l.take n) (l.drop n)
  have hl : (l.take n).length = n := by simp; omega
  rw [List.take_append_drop, hl] at h1
  have h2 := leV_lt2 (l.take n)
  rw [hl] at h2
  rw [h1, Nat.add_mul_div_left _ _ (Nat.two_pow_pos _), Nat.div_eq_of_lt h2, Nat.zero_add]
/-- Bits turned ahead of byte n only: what is behind stays. -/
theorem turned_front (E L : List UInt8) (n X : Nat) (hl : L.length = E.length) (hn : n ≤ E.length) (hx : X < 2 ^ (8 * n)) (h : leV L = leV E ^^^ X) : L.drop n = E.drop n ∧ leV (L.take n) = leV (E.take n) ^^^ X := by
  constructor
  · apply leV_inj _ _ (by simp [hl])
    rw [leV_dropn _ _ (by omega), leV_dropn _ _ hn, h, xor_div, Nat.div_eq_of_lt hx, Nat.xor_zero]
  · rw [leV_take _ _ (by omega), leV_take _ _ hn, h, xor_mod, Nat.mod_eq_of_lt hx]
/-- Bits turned from byte n on only: what is ahead stays. -/
theorem turned_back (E L : List UInt8) (n X : Nat) (hl : L.length = E.length) (hn : n ≤ E.length) (h : leV L = leV E ^^^ X * 2 ^ (8 * n)) : L.take n = E.take n ∧ leV (L.drop n) = leV (E.drop n) ^^^ X := by
  constructor
  · apply leV_inj _ _ (by simp [hl])
    rw [leV_take _ _ (by omega), leV_take _ _ hn, h, xor_mod, Nat.mul_mod_left, Nat.xor_zero]
  · rw [leV_dropn _ _ (by omega), leV_dropn _ _ hn, h, xor_div, Nat.mul_div_cancel _ (Nat.two_pow_pos _)]
end Go.Proofs.Ytafpaigifemjjaa.Flips
