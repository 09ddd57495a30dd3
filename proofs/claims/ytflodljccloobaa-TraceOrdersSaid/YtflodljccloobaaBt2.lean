/- Package bits: Next: contracts. -/
import Derived.Test.YtflodljccloobaaBt1
namespace Go.Proofs.Ytflodljccloobaa
open Go.ChangeShapes Go.WideShapes Go.ChangeAt Go.RowKit Go.Lib
set_option linter.unusedVariables false
theorem has_nat (v : Value) (l : List UInt8) (i : Nat) (w : World) (hl : l.length ≤ 1000000) (hd : Sl w w.heap.size v l.length (bs l)) :
    Calls Try.prog 67 #[v, .int .i64 (i : Nat)] w fun e w' => e = .returned (.bool (bit l i)) ∧ w = w' := by
  have h := has_any v l i w hl hd
  rw [decide_eq_true (show (0 : Int) ≤ i by omega), Bool.true_and, Int.toNat_natCast] at h
  exact h
/-- A byte with no bit that is so. -/
theorem byte_none {l : List UInt8} {i : Nat} (hi : i < l.length) (set : Bool) (h : (l[i]).toNat = if set then 0 else 255) : ∀ j, 8 * i ≤ j → j < 8 * i + 8 → bit l j = !set := by
  intro j h1 h2
  obtain ⟨q, rfl⟩ : ∃ q, j = 8 * i + q := ⟨j - 8 * i, by omega⟩
  have hb := bit_nat hi (show q < 8 by omega)
  rw [h] at hb
  have hq : q = 0 ∨ q = 1 ∨ q = 2 ∨ q = 3 ∨ q = 4 ∨ q = 5 ∨ q = 6 ∨ q = 7 := by omega
  cases set <;> rcases hq with rfl | rfl | rfl | rfl | rfl | rfl | rfl | rfl <;> revert hb <;> (cases bit l _ <;> simp)
end Go.Proofs.Ytflodljccloobaa
