/- Keys of reservations as bytes: plain facts (no program is named but through XPut). -/
import Derived.Test.YtflodljccloobaaPut
namespace Go.Proofs.Ytflodljccloobaa
open Go.ChangeShapes Go.WideShapes Go.ChangeAt Go.RowKit
set_option linter.unusedVariables false
theorem beVal_beTo (x n : Nat) : ∀ k, k ≤ n → beVal (beTo x n k) = x / 256 ^ (n - k) % 256 ^ k := by
  intro k
  induction k with
  | zero => intro _; simp [beTo, beVal, Nat.mod_one]
  | succ k ih =>
    intro hk
    rw [beTo_succ, beVal_snoc, ih (by omega), UInt8.toNat_ofNat', show n - 1 - k = n - (k + 1) by omega, show n - k = (n - (k + 1)) + 1 by omega, Nat.pow_succ 256 (n - (k + 1)), ← Nat.div_div_eq_div_mul]
    generalize x / 256 ^ (n - (k + 1)) = y
    rw [show (2 : Nat) ^ 8 = 256 from rfl, Nat.pow_succ, Nat.mul_comm (256 ^ k) 256, Nat.mod_mul]
    omega
theorem beVal_be (x n : Nat) : beVal (be x n) = x % 256 ^ n := by
  unfold be
  rw [beVal_beTo x n n (Nat.le_refl _), Nat.sub_self, Nat.pow_zero, Nat.div_one]
theorem beVal_be4 {x : Nat} (h : x < 4294967296) : beVal (be x 4) = x := by rw [beVal_be]; exact Nat.mod_eq_of_lt h
theorem beVal_be8 {x : Nat} (h : x < 18446744073709551616) : beVal (be x 8) = x := by rw [beVal_be]; exact Nat.mod_eq_of_lt h
/-- Bytes are told by their length and their number. -/
theorem be_inj : ∀ (n : Nat) (a b : List UInt8), a.length = n → b.length = n → beVal a = beVal b → a = b := by
  intro n
  induction n with
  | zero => intro a b ha hb _; rw [List.eq_nil_of_length_eq_zero ha, List.eq_nil_of_length_eq_zero hb]
  | succ n ih =>
    intro a b ha hb h
    have hna : a ≠ [] := by rintro rfl; simp at ha
    have hnb : b ≠ [] := by rintro rfl; simp at hb
    have ea := List.dropLast_concat_getLast hna
    have eb := List.dropLast_concat_getLast hnb
    rw [← ea, ← eb, beVal_snoc, beVal_snoc] at h
    have h1 := (a.getLast hna).toNat_lt
    have h2 := (b.getLast hnb).toNat_lt
    have h3 := ih a.dropLast b.dropLast (by simp [ha]) (by simp [hb]) (by omega)
    have h4 : a.getLast hna = b.getLast hnb := UInt8.toNat_inj.1 (by omega)
    rw [← ea, ← eb, h3, h4]
theorem be_beVal {l : List UInt8} {n : Nat} (h : l.length = n) : be (beVal l) n = l := by
  refine be_inj n _ _ (be_len _ _) h ?_
  rw [beVal_be]
  exact Nat.mod_eq_of_lt (beVal_lt n l h)
def nought (l : List UInt8) : Bool := l.all (· == 0)
theorem nought_is {l : List UInt8} (h : nought l = true) : l = List.replicate l.length 0 := by
  rw [List.eq_replicate_iff]
  refine ⟨rfl, fun x hx => ?_⟩
  have := List.all_eq_true.1 h x hx
  simpa using this
theorem be_zero (n : Nat) : be 0 n = List.replicate n 0 := by
  rw [List.eq_replicate_iff]
  refine ⟨be_len _ _, fun x hx => ?_⟩
  unfold be beTo at hx
  obtain ⟨j, _, rfl⟩ := List.mem_map.1 hx
  rw [Nat.zero_div]
  rfl
theorem nought_be (n : Nat) : nought (be 0 n) = true := by rw [be_zero]; unfold nought; rw [List.all_eq_true]; intro x hx; rw [List.eq_of_mem_replicate hx]; rfl
/-- Two keys as a list. -/
def prEnc (k o : Nat) : List UInt8 := be k 8 ++ be o 8 ++ be 0 8
theorem prEnc_len (k o : Nat) : (prEnc k o).length = 24 := by simp [prEnc]
/-- What a list's two keys are. -/
def prDec (l : List UInt8) : Nat × Nat × Bool := if l.length = 24 ∧ nought (l.drop 16) = true then (beVal (l.take 8), beVal ((l.drop 8).take 8), true) else (0, 0, false)
theorem prDec_enc {k o : Nat} (hk : k < 18446744073709551616) (ho : o < 18446744073709551616) : prDec (prEnc k o) = (k, o, true) := by
  have h1 : (prEnc k o).drop 16 = be 0 8 := by unfold prEnc; rw [List.drop_append_of_le_length (by simp), List.drop_of_length_le (by simp)]; rfl
  have h2 : (prEnc k o).take 8 = be k 8 := by unfold prEnc; rw [List.append_assoc, List.take_append_of_le_length (by simp), List.take_of_length_le (by simp)]
  have h3 : ((prEnc k o).drop 8).take 8 = be o 8 := by
    unfold prEnc
    rw [List.append_assoc, List.drop_append_of_le_length (by simp), List.drop_of_length_le (by simp), List.nil_append, List.take_append_of_le_length (by simp), List.take_of_length_le (by simp)]
  unfold prDec
  rw [prEnc_len, h1, h2, h3, if_pos ⟨rfl, nought_be 8⟩, beVal_be8 hk, beVal_be8 ho]
/-- Keys as bytes. -/
def catK (l : List Nat) : List UInt8 := (l.map fun x => be x 8).flatten
theorem catK_len (l : List Nat) : (catK l).length = 8 * l.length := by
  induction l with
  | nil => rfl
  | cons x l ih => simp [catK] at ih ⊢; omega
theorem catK_snoc (l : List Nat) (x : Nat) : catK (l ++ [x]) = catK l ++ be x 8 := by simp [catK]
def keysS (g : Nat) (l : List Nat) : List UInt8 := be g 4 ++ be (8 * l.length) 4 ++ catK l
theorem keysS_len (g : Nat) (l : List Nat) : (keysS g l).length = 8 + 8 * l.length := by unfold keysS; rw [List.length_append, catK_len]; simp
/-- What both lists begin with: 0 just if what follows is as long as it says. -/
def frontE (l : List UInt8) : Nat := if l.length < 8 then 3 else if l.length - 8 < beVal ((l.drop 4).take 4) then 3 else if beVal ((l.drop 4).take 4) < l.length - 8 then 2 else 0
/-- The keys that bytes hold. -/
def cutK (r : List UInt8) : List Nat := (List.range (r.length / 8)).map fun i => beVal ((r.drop (8 * i)).take 8)
def pkE (l : List UInt8) : Nat := if frontE l ≠ 0 then frontE l else if (l.length - 8) % 8 ≠ 0 ∨ 128 < l.length - 8 then 2 else 0
/-- Who holds it, as bytes; t below 16. -/
def holderS (g k t : Nat) : List UInt8 := if t = 0 then be g 4 ++ be 0 4 else be g 4 ++ be 16 4 ++ be k 8 ++ be 0 5 ++ be t 1 ++ be 0 2
def phE (l : List UInt8) : Nat := if frontE l ≠ 0 then frontE l else if l.length - 8 = 0 then 0 else
  if l.length - 8 = 16 ∧ nought (((l.drop 8).drop 8).take 5) = true ∧ nought ((l.drop 8).drop 14) = true ∧ 1 ≤ ((l.drop 8).getD 13 0).toNat ∧ ((l.drop 8).getD 13 0).toNat ≤ 15 then 0 else 2
theorem holderS_len (g k t : Nat) : (holderS g k t).length = if t = 0 then 8 else 24 := by unfold holderS; split <;> simp
end Go.Proofs.Ytflodljccloobaa
