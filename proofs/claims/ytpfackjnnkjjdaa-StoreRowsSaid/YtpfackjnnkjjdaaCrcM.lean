/- CRC-32C on numbers: one bit's turn, its linearity, eight turns by a table, sums in parts, what is sealed is opened. No program is named here. -/
import Derived.Laws.BitsAllLaws
namespace Go.Proofs.Ytpfackjnnkjjdaa.Crc

def poly : Nat := 2197175160
/-- One bit's turn. -/
def f (s : Nat) : Nat := s / 2 ^^^ (if s % 2 = 1 then poly else 0)
theorem f_lt {s : Nat} (h : s < 4294967296) : f s < 4294967296 := by
  unfold f
  have h1 : s / 2 < 2 ^ 32 := by omega
  have h2 : (if s % 2 = 1 then poly else 0) < 2 ^ 32 := by split <;> simp [poly]
  exact Nat.xor_lt_two_pow h1 h2
theorem xor_par (a b : Nat) : (a ^^^ b) % 2 = (a % 2 + b % 2) % 2 := by
  have h := Nat.testBit_xor a b 0
  simp only [Nat.testBit_zero] at h
  rcases Nat.mod_two_eq_zero_or_one a with ha | ha <;> rcases Nat.mod_two_eq_zero_or_one b with hb | hb <;> rcases Nat.mod_two_eq_zero_or_one (a ^^^ b) with hc | hc <;> simp [ha, hb, hc] at h ⊢
theorem xor_half (a b : Nat) : (a ^^^ b) / 2 = a / 2 ^^^ b / 2 := by
  apply Nat.eq_of_testBit_eq
  intro i
  simp [Nat.testBit_div_two]
theorem f_xor (a b : Nat) : f (a ^^^ b) = f a ^^^ f b := by
  unfold f
  rw [xor_half, xor_par]
  rcases Nat.mod_two_eq_zero_or_one a with ha | ha <;> rcases Nat.mod_two_eq_zero_or_one b with hb | hb <;> simp only [ha, hb]
  · simp
  · simp [Nat.xor_assoc]
  · simp only [Nat.zero_ne_one, if_true, if_false, Nat.xor_zero]
    rw [Nat.xor_assoc, Nat.xor_comm (b / 2) poly, ← Nat.xor_assoc]
  · simp only [if_true, Nat.reduceAdd, Nat.reduceMod, Nat.zero_ne_one, if_false, Nat.xor_zero]
    rw [Nat.xor_assoc, Nat.xor_comm poly, Nat.xor_assoc (b / 2), Nat.xor_self, Nat.xor_zero]
theorem f_zero : f 0 = 0 := rfl
theorem f_two (m : Nat) : f (2 * m) = m := by
  unfold f
  rw [if_neg (by omega), Nat.xor_zero]
  omega

/-- k bits' turns. -/
def fk : Nat → Nat → Nat
  | 0, s => s
  | k + 1, s => fk k (f s)
theorem fk_lt {k : Nat} : ∀ {s : Nat}, s < 4294967296 → fk k s < 4294967296 := by
  induction k with
  | zero => intro s h; exact h
  | succ k ih => intro s h; exact ih (f_lt h)
theorem fk_xor {k : Nat} : ∀ (a b : Nat), fk k (a ^^^ b) = fk k a ^^^ fk k b := by
  induction k with
  | zero => intro a b; rfl
  | succ k ih => intro a b; show fk k (f (a ^^^ b)) = _; rw [f_xor, ih]; rfl
theorem fk_zero {k : Nat} : fk k 0 = 0 := by
  induction k with
  | zero => rfl
  | succ k ih => show fk k (f 0) = 0; rw [f_zero, ih]
theorem fk_succ' (k s : Nat) : fk (k + 1) s = f (fk k s) := by
  induction k generalizing s with
  | zero => rfl
  | succ k ih => show fk (k + 1) (f s) = f (fk k (f s)); exact ih (f s)
theorem fk_shift {k : Nat} : ∀ (h : Nat), fk k (h * 2 ^ k) = h := by
  induction k with
  | zero => intro h; simp [fk]
  | succ k ih =>
    intro h
    show fk k (f (h * 2 ^ (k + 1))) = h
    rw [show h * 2 ^ (k + 1) = 2 * (h * 2 ^ k) by rw [Nat.pow_succ, Nat.mul_comm 2, Nat.mul_assoc], f_two, ih]

/-- Eight turns. -/
def f8 (s : Nat) : Nat := fk 8 s
theorem f8_lt {s : Nat} (h : s < 4294967296) : f8 s < 4294967296 := fk_lt h
theorem split8 (s : Nat) : s = s / 256 * 2 ^ 8 ^^^ s % 256 := by
  apply Nat.eq_of_testBit_eq
  intro i
  rw [Nat.testBit_xor, Nat.testBit_mul_two_pow, show (256 : Nat) = 2 ^ 8 from rfl, Nat.testBit_mod_two_pow, Nat.testBit_div_two_pow]
  by_cases h : i < 8
  · simp [h, show ¬ 8 ≤ i by omega]
  · simp [h, show 8 ≤ i by omega]
theorem xor_byte {a b : Nat} (ha : a < 256) (hb : b < 256) : a ^^^ b < 256 := Nat.xor_lt_two_pow (n := 8) ha hb
/-- A byte by the table. -/
theorem step8 (s x : Nat) : f8 (s ^^^ x) = s / 256 ^^^ f8 (s % 256 ^^^ x) := by
  conv => lhs; rw [split8 s, Nat.xor_assoc]
  unfold f8
  rw [fk_xor, fk_shift]

/-- The bytes' turns, one behind the other. -/
def sumS (s : Nat) (l : List UInt8) : Nat := l.foldl (fun s x => f8 (s ^^^ x.toNat)) s
theorem sumS_app (s : Nat) (a b : List UInt8) : sumS s (a ++ b) = sumS (sumS s a) b := by simp [sumS, List.foldl_append]
theorem sumS_snoc (s : Nat) (a : List UInt8) (x : UInt8) : sumS s (a ++ [x]) = f8 (sumS s a ^^^ x.toNat) := by rw [sumS_app]; rfl
theorem xor32 {a b : Nat} (ha : a < 4294967296) (hb : b < 4294967296) : a ^^^ b < 4294967296 := Nat.xor_lt_two_pow (n := 32) ha hb
theorem sumS_lt (l : List UInt8) : ∀ {s : Nat}, s < 4294967296 → sumS s l < 4294967296 := by
  induction l with
  | nil => intro s h; exact h
  | cons x l ih => intro s h; exact ih (f8_lt (xor32 h (by have := x.toNat_lt; omega)))
/-- What More tells. -/
def moreS (s : Nat) (l : List UInt8) : Nat := 4294967295 - sumS (4294967295 - s) l
theorem moreS_lt (s : Nat) (l : List UInt8) : moreS s l < 4294967296 := by unfold moreS; omega
theorem moreS_app (s : Nat) (a b : List UInt8) : moreS (moreS s a) b = moreS s (a ++ b) := by
  unfold moreS
  rw [sumS_app]
  have h := sumS_lt a (s := 4294967295 - s) (by omega)
  rw [show 4294967295 - (4294967295 - sumS (4294967295 - s) a) = sumS (4294967295 - s) a by omega]
theorem moreS_nil (s : Nat) (h : s < 4294967296) : moreS s [] = s := by
  unfold moreS sumS
  simp only [List.foldl_nil]
  omega

/-- A sum's bytes, the lowest first. -/
def le4 (s : Nat) : List UInt8 := [UInt8.ofNat s, UInt8.ofNat (s / 256), UInt8.ofNat (s / 65536), UInt8.ofNat (s / 16777216)]
def leV (l : List UInt8) : Nat := l.foldr (fun x v => x.toNat + 256 * v) 0
theorem leV_le4 (s : Nat) (h : s < 4294967296) : leV (le4 s) = s := by
  simp only [leV, le4, List.foldr, UInt8.toNat_ofNat']
  omega
theorem le4_leV (a b c d : UInt8) : le4 (leV [a, b, c, d]) = [a, b, c, d] := by
  have ha := a.toNat_lt; have hb := b.toNat_lt; have hc := c.toNat_lt; have hd := d.toNat_lt
  simp only [leV, le4, List.foldr]
  congr 1
  · apply UInt8.toNat_inj.1; rw [UInt8.toNat_ofNat']; omega
  congr 1
  · apply UInt8.toNat_inj.1; rw [UInt8.toNat_ofNat']; omega
  congr 1
  · apply UInt8.toNat_inj.1; rw [UInt8.toNat_ofNat']; omega
  congr 1
  · apply UInt8.toNat_inj.1; rw [UInt8.toNat_ofNat']; omega
/-- What Seal tells. -/
def sealS (l : List UInt8) : List UInt8 := l ++ le4 (moreS 0 l)
@[simp] theorem sealS_len (l : List UInt8) : (sealS l).length = l.length + 4 := by simp [sealS, le4]
/-- What Open tells. -/
def openS (l : List UInt8) : List UInt8 × Nat :=
  if l.length < 4 then ([], 3) else if leV (l.drop (l.length - 4)) ≠ moreS 0 (l.take (l.length - 4)) then ([], 4) else (l.take (l.length - 4), 0)
theorem open_seal (l : List UInt8) : openS (sealS l) = (l, 0) := by
  unfold openS
  rw [sealS_len, if_neg (by omega), show l.length + 4 - 4 = l.length by omega]
  have h1 : (sealS l).drop l.length = le4 (moreS 0 l) := by simp [sealS]
  have h2 : (sealS l).take l.length = l := by simp [sealS]
  rw [h1, h2, leV_le4 _ (moreS_lt _ _), if_neg (by simp)]

/-- The table as it grows. -/
def tt : Nat → Nat → Nat
  | 0, _ => 0
  | r + 1, j => if j % (256 / 2 ^ r) = 128 / 2 ^ r then fk (r + 1) 1 ^^^ tt r (j - 128 / 2 ^ r) else tt r j
theorem tt_done : ∀ j, j < 256 → tt 8 j = f8 j := by decide +kernel
theorem tt_lt : ∀ r, r < 9 → ∀ j, j < 256 → tt r j < 4294967296 := by decide +kernel
end Go.Proofs.Ytpfackjnnkjjdaa.Crc
