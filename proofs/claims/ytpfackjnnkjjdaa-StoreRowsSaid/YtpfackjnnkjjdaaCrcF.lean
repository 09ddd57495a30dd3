/- CRC-32C finds what was turned within thirty-two bits: the row of bytes as one number. No program is named here. -/
import Derived.Test.YtpfackjnnkjjdaaCrcM
namespace Go.Proofs.Ytpfackjnnkjjdaa.Crc

theorem xor_low {x v : Nat} (h : x < 256) : x + 256 * v = x ^^^ v * 2 ^ 8 := by
  apply Nat.eq_of_testBit_eq
  intro i
  rw [Nat.testBit_xor, Nat.testBit_mul_two_pow, show x + 256 * v = 2 ^ 8 * v + x by omega, Nat.testBit_two_pow_mul_add v (show x < 2 ^ 8 from h)]
  by_cases hi : i < 8
  · simp [hi, show ¬ 8 ≤ i by omega]
  · have hx : x.testBit i = false := Nat.testBit_lt_two_pow (Nat.lt_of_lt_of_le h (Nat.pow_le_pow_right (n := 2) (by omega) (show 8 ≤ i by omega)))
    simp [hi, hx, show 8 ≤ i by omega]
theorem fk_add (a b s : Nat) : fk (a + b) s = fk b (fk a s) := by
  induction a generalizing s with
  | zero => simp [fk]
  | succ a ih => rw [show a + 1 + b = (a + b) + 1 by omega]; show fk (a + b) (f s) = fk b (fk a (f s)); exact ih (f s)
/-- The sum of bytes is the turn of their number. -/
theorem sumS_num (l : List UInt8) : ∀ s, sumS s l = fk (8 * l.length) (s ^^^ leV l) := by
  induction l with
  | nil => intro s; simp [sumS, leV, fk]
  | cons x l ih =>
    intro s
    have h1 : sumS s (x :: l) = sumS (f8 (s ^^^ x.toNat)) l := rfl
    have h2 : leV (x :: l) = x.toNat + 256 * leV l := rfl
    rw [h1, ih, h2, xor_low (by have := x.toNat_lt; omega), ← Nat.xor_assoc, List.length_cons, show 8 * (l.length + 1) = 8 + 8 * l.length by omega, fk_add, fk_xor (k := 8), fk_shift]
    rfl
theorem f_none {x : Nat} (h : x < 4294967296) (h0 : f x = 0) : x = 0 := by
  unfold f at h0
  split at h0
  · have h1 : x / 2 = poly := by
      have h2 : (x / 2 ^^^ poly) ^^^ poly = 0 ^^^ poly := by rw [h0]
      rw [Nat.xor_assoc, Nat.xor_self, Nat.xor_zero, Nat.zero_xor] at h2
      exact h2
    unfold poly at h1
    omega
  · rw [Nat.xor_zero] at h0
    omega
theorem fk_none {k : Nat} : ∀ {x : Nat}, x < 4294967296 → fk k x = 0 → x = 0 := by
  induction k with
  | zero => intro x _ h; exact h
  | succ k ih => intro x h h0; exact f_none h (ih (f_lt h) h0)
theorem fk_inj {k x y : Nat} (hx : x < 4294967296) (hy : y < 4294967296) (h : fk k x = fk k y) : x = y := by
  have h1 : fk k (x ^^^ y) = 0 := by rw [fk_xor, h, Nat.xor_self]
  have h2 := fk_none (xor32 hx hy) h1
  have h3 : (x ^^^ y) ^^^ y = 0 ^^^ y := by rw [h2]
  rw [Nat.xor_assoc, Nat.xor_self, Nat.xor_zero, Nat.zero_xor] at h3
  exact h3
theorem not32 {x : Nat} (h : x < 4294967296) : 4294967295 - x = 4294967295 ^^^ x := by
  have e : x ^^^ (4294967295 - x) = 4294967295 := by
    apply Nat.eq_of_testBit_eq
    intro i
    rw [Nat.testBit_xor, show 4294967295 - x = 2 ^ 32 - (x + 1) by omega, Nat.testBit_two_pow_sub_succ h, show (4294967295 : Nat) = 2 ^ 32 - 1 from rfl, Nat.testBit_two_pow_sub_one]
    by_cases hi : i < 32
    · simp [hi]
    · have hx : x.testBit i = false := Nat.testBit_lt_two_pow (Nat.lt_of_lt_of_le h (Nat.pow_le_pow_right (n := 2) (by omega) (show 32 ≤ i by omega)))
      simp [hi, hx]
  calc 4294967295 - x = (x ^^^ x) ^^^ (4294967295 - x) := by rw [Nat.xor_self, Nat.zero_xor]
    _ = x ^^^ 4294967295 := by rw [Nat.xor_assoc, e]
    _ = 4294967295 ^^^ x := Nat.xor_comm _ _
theorem leV_lt (l : List UInt8) : leV l < 256 ^ l.length := by
  induction l with
  | nil => simp [leV]
  | cons x l ih =>
    have h2 : leV (x :: l) = x.toNat + 256 * leV l := rfl
    have := x.toNat_lt
    rw [h2, List.length_cons, Nat.pow_succ]
    omega
theorem leV_inj : ∀ (a b : List UInt8), a.length = b.length → leV a = leV b → a = b := by
  intro a
  induction a with
  | nil => intro b h _; exact (List.eq_nil_of_length_eq_zero (by simpa using h.symm)).symm
  | cons x a ih =>
    intro b h hv
    cases b with
    | nil => simp at h
    | cons y b =>
      have h1 : leV (x :: a) = x.toNat + 256 * leV a := rfl
      have h2 : leV (y :: b) = y.toNat + 256 * leV b := rfl
      rw [h1, h2] at hv
      have := x.toNat_lt
      have := y.toNat_lt
      have hxy : x = y := UInt8.toNat_inj.1 (by omega)
      rw [hxy, ih b (by simpa using h) (by omega)]
/-- Bytes are opened just if their number's turn is the one that each sealed row has. -/
theorem open_iff (l : List UInt8) (h : 4 ≤ l.length) : (openS l).2 = 0 ↔ fk (8 * l.length) (4294967295 ^^^ leV l) = fk 32 4294967295 := by
  have hsp : l = l.take (l.length - 4) ++ l.drop (l.length - 4) := (List.take_append_drop _ _).symm
  have hl4 : (l.drop (l.length - 4)).length = 4 := by simp; omega
  have hlt : leV (l.drop (l.length - 4)) < 4294967296 := by have := leV_lt (l.drop (l.length - 4)); rw [hl4] at this; exact this
  have hs : sumS 4294967295 (l.take (l.length - 4)) < 4294967296 := sumS_lt _ (by omega)
  rw [← sumS_num]
  conv => rhs; lhs; rw [hsp, sumS_app, sumS_num, hl4]
  unfold openS
  rw [if_neg (by omega)]
  constructor
  · intro h0
    split at h0
    · cases h0
    · rename_i hne
      have he : leV (l.drop (l.length - 4)) = moreS 0 (l.take (l.length - 4)) := by simpa using hne
      rw [he]
      unfold moreS
      rw [Nat.sub_zero, not32 hs, ← Nat.xor_assoc, Nat.xor_comm _ 4294967295, Nat.xor_assoc, Nat.xor_self, Nat.xor_zero]
  · intro h0
    have he := fk_inj (xor32 hs hlt) (by omega) h0
    have he2 : leV (l.drop (l.length - 4)) = moreS 0 (l.take (l.length - 4)) := by
      unfold moreS
      rw [Nat.sub_zero, not32 hs]
      generalize sumS 4294967295 (l.take (l.length - 4)) = S at he
      generalize leV (l.drop (l.length - 4)) = L at he
      rw [← he, Nat.xor_comm S L, Nat.xor_assoc, Nat.xor_self, Nat.xor_zero]
    rw [if_neg (by simp [he2])]
theorem open_bad (l : List UInt8) (h : 4 ≤ l.length) (h0 : (openS l).2 ≠ 0) : openS l = ([], 4) := by
  unfold openS at h0 ⊢
  rw [if_neg (by omega)] at h0 ⊢
  split
  · rfl
  · rename_i hne; rw [if_neg hne] at h0; exact absurd rfl h0
/-- What was turned within thirty-two bits is found. -/
theorem flips_found (l : List UInt8) (m : List UInt8) (p bit : Nat) (hl : m.length = (sealS l).length) (hm : leV m = leV (sealS l) ^^^ p * 2 ^ bit) (hp : p < 4294967296) (hb : bit ≤ 8 * m.length) :
    openS m = if p = 0 then (l, 0) else ([], 4) := by
  have h4 : 4 ≤ m.length := by rw [hl, sealS_len]; omega
  have hseal := (open_iff (sealS l) (by rw [sealS_len]; omega)).1 (by rw [open_seal])
  by_cases h0 : p = 0
  · rw [if_pos h0]
    subst h0
    have he : m = sealS l := leV_inj _ _ hl (by rw [hm]; simp)
    rw [he, open_seal]
  · rw [if_neg h0]
    apply open_bad m h4
    intro hok
    have h1 := (open_iff m h4).1 hok
    rw [hm, ← Nat.xor_assoc, fk_xor, hl, hseal, ← hl] at h1
    have h2 : fk (8 * m.length) (p * 2 ^ bit) = 0 := by
      have h3 : fk 32 4294967295 ^^^ (fk 32 4294967295 ^^^ fk (8 * m.length) (p * 2 ^ bit)) = fk 32 4294967295 ^^^ fk 32 4294967295 := by rw [h1]
      rw [← Nat.xor_assoc, Nat.xor_self, Nat.zero_xor] at h3
      exact h3
    rw [show 8 * m.length = bit + (8 * m.length - bit) by omega, fk_add, fk_shift] at h2
    exact h0 (fk_none hp h2)
end Go.Proofs.Ytpfackjnnkjjdaa.Crc
