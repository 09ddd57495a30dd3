/- What Pad, and the document's second telling of Put, Get and Pad, give: contracts. -/
import Derived.Test.YtoogmdokcndieaaPut
namespace Go.Proofs.Ytoogmdokcndieaa
open Go.ChangeShapes Go.WideShapes Go.ChangeAt Go.RowKit
set_option linter.unusedVariables false
set_option maxRecDepth 100000

/-- How many bytes are put in. -/
def padN (n t : Nat) : Nat := (t - n % t) % t
/-- What Pad tells. -/
def padS (l : List UInt8) (t : Int) : List UInt8 := if t < 1 ∨ 4096 < t then l else l ++ List.replicate (padN l.length t.toNat) 0
theorem padN_lt {n t : Nat} (h : 0 < t) : padN n t < t := Nat.mod_lt _ h
theorem padN_zero {n t k : Nat} (h : 0 < t) (hk : k ≤ padN n t) : (n + k) % t = 0 ↔ k = padN n t := by
  unfold padN at *
  have h1 := Nat.mod_lt n h
  have h2 : n = t * (n / t) + n % t := (Nat.div_add_mod n t).symm
  generalize hr : n % t = r at *
  generalize n / t = q at *
  rcases Nat.eq_zero_or_pos r with h0 | h0
  · subst h0
    rw [Nat.sub_zero, Nat.mod_self] at *
    obtain rfl : k = 0 := by omega
    simp [hr]
  · have h3 : (t - r) % t = t - r := Nat.mod_eq_of_lt (by omega)
    rw [h3] at hk ⊢
    have h4 : (n + k) % t = (r + k) % t := by rw [Nat.add_mod, hr, Nat.add_mod r k, Nat.mod_eq_of_lt h1]
    rw [h4]
    constructor
    · intro he
      rcases Nat.lt_or_ge (r + k) t with h5 | h5
      · rw [Nat.mod_eq_of_lt h5] at he; omega
      · omega
    · intro he
      subst he
      rw [show r + (t - r) = t by omega, Nat.mod_self]
theorem pad_ne {n t k : Nat} (h : 0 < t) (hk : k < padN n t) : (((n : Int) + (k : Int)) % (t : Int) == 0) = false := by
  rw [beq_eq_false_iff_ne]
  intro e
  have h1 := (padN_zero (n := n) h (Nat.le_of_lt hk)).1 (by
    have e' : (((n + k) % t : Nat) : Int) = 0 := by rw [Int.natCast_emod]; simpa using e
    omega)
  omega
theorem pad_eq {n t : Nat} (h : 0 < t) : (((n : Int) + (padN n t : Int)) % (t : Int) == 0) = true := by
  rw [beq_iff_eq]
  have h1 := (padN_zero (n := n) h (Nat.le_refl _)).2 rfl
  have e' : (((n + padN n t) % t : Nat) : Int) = 0 := by omega
  rw [Int.natCast_emod] at e'
  simpa using e'
theorem u8_zero : ([Value.int .u8 0] : List Value) = bs [0] := rfl
def lenV : Value → Nat | .slice _ n _ => n | _ => 0

/-! The document's second telling: it appends to what it is given. -/
end Go.Proofs.Ytoogmdokcndieaa
