/- bin.Put and bin.Get as the layers above call them. -/
import Derived.Test.YtflodljccloobaaPrS
namespace Go.Proofs.Ytflodljccloobaa
open Go.ChangeShapes Go.WideShapes Go.ChangeAt Go.RowKit
set_option linter.unusedVariables false
theorem putS_is (l : List UInt8) (x n : Nat) (h : 1 ≤ n ∧ n ≤ 8) : putS l x n = l ++ be x n := by unfold putS; rw [if_neg (by omega)]; simp
/-- bin.Put, as the layers above call it. -/
theorem put_b (v : Value) (l : List UInt8) (X N : Int) (x n : Nat) (hX : X = x) (hN : N = n) (w : World) (hv : Sl w w.heap.size v l.length (bs l)) (hx : x < 18446744073709551616) (hl : l.length ≤ 8796093022208) (hn : 1 ≤ n ∧ n ≤ 8) :
    Calls Try.prog 56 #[v, .int .u64 X, .int .i64 N] w fun e w' => ∃ v', e = .returned v' ∧ Sl w' w'.heap.size v' (l ++ be x n).length (bs (l ++ be x n)) ∧ Below w.heap.size w w' := by
  subst hX; subst hN
  refine (put_any v l x n w hv hx hl (by omega) (by omega)).mono ?_
  rintro e w' ⟨v', rfl, ho, hb⟩
  rw [putS_is l x n hn] at ho
  exact ⟨v', rfl, Sl.of_own ho, hb⟩
theorem Sl.empty_any (w : World) (B : Nat) (A : Option Addr) {c : Nat} (hc : c ≤ maxLen) : Sl w B (.slice A 0 c) 0 [] := ⟨rfl, A, c, rfl, Nat.zero_le _, hc, fun h => absurd rfl h⟩
theorem bs_drop (l : List UInt8) (m : Nat) : bs (l.drop m) = (bs l).drop m := by unfold bs; rw [List.map_drop]
theorem bs_take (l : List UInt8) (m : Nat) : bs (l.take m) = (bs l).take m := by unfold bs; rw [List.map_take]
/-- A slice from place m on. -/
theorem Sl.from {w : World} {B c b off : Nat} {l : List UInt8} (h : Sl w B (.slice (some ⟨b, off, none⟩) l.length c) l.length (bs l)) {m : Nat} (hm : m ≤ l.length) (hc : c ≤ maxLen) :
    Sl w B (.slice (some ⟨b, off + m, none⟩) (l.length - m) (c - m)) (l.drop m).length (bs (l.drop m)) := by
  rw [bs_drop, List.length_drop]
  rcases Nat.lt_or_ge m l.length with h1 | h1
  · exact h.drop h1
  · obtain rfl : m = l.length := by omega
    rw [Nat.sub_self, List.drop_of_length_le (by simp)]
    exact Sl.empty_any _ _ _ (by omega)
end Go.Proofs.Ytflodljccloobaa
