/- Package bits: Set, Unset: contracts; rows with the same bits are the same. -/
import Derived.Test.YtflodljccloobaaBt4
namespace Go.Proofs.Ytflodljccloobaa
open Go.ChangeShapes Go.WideShapes Go.ChangeAt Go.RowKit Go.Lib
set_option linter.unusedVariables false
theorem set_any (B g c : Nat) (l : List UInt8) (F N : Nat) (o w : World) (hl : l.length ≤ 1000000) (hBw : B ≤ w.heap.size) (hN : F + N ≤ 8 * l.length) (hF : F < 8 * l.length) (hown : w.ownsRow B 5 1 (.slice (some ⟨g, 0, none⟩) l.length c) l.length (bs l)) (hg : B ≤ g) (hb : Below B o w) :
    Calls Try.prog 53 #[.slice (some ⟨g, 0, none⟩) l.length c, .int .i64 (F : Nat), .int .i64 (N : Nat)] w fun e w' => e = .returned (.int .i64 (tn l F true N : Nat)) ∧ ∃ l' : List UInt8, l'.length = l.length ∧ (∀ j, bit l' j = if F ≤ j ∧ j < F + N then true else bit l j) ∧ w'.ownsRow B 5 1 (.slice (some ⟨g, 0, none⟩) l.length c) l.length (bs l') ∧ Below B o w' := by
  have ht := turn_any B g c l F N true o w hl hBw hN hF hown hg hb
  go_enter Try.func53, Try.ntmps53
  go_wp2_with (go_at_call 64; (with_reducible refine ht.mono ?_); rintro e w1 ⟨rfl, hp⟩)
  go_ret
  exact ⟨rfl, hp⟩
theorem unset_any (B g c : Nat) (l : List UInt8) (F N : Nat) (o w : World) (hl : l.length ≤ 1000000) (hBw : B ≤ w.heap.size) (hN : F + N ≤ 8 * l.length) (hF : F < 8 * l.length) (hown : w.ownsRow B 5 1 (.slice (some ⟨g, 0, none⟩) l.length c) l.length (bs l)) (hg : B ≤ g) (hb : Below B o w) :
    Calls Try.prog 54 #[.slice (some ⟨g, 0, none⟩) l.length c, .int .i64 (F : Nat), .int .i64 (N : Nat)] w fun e w' => e = .returned (.int .i64 (tn l F false N : Nat)) ∧ ∃ l' : List UInt8, l'.length = l.length ∧ (∀ j, bit l' j = if F ≤ j ∧ j < F + N then false else bit l j) ∧ w'.ownsRow B 5 1 (.slice (some ⟨g, 0, none⟩) l.length c) l.length (bs l') ∧ Below B o w' := by
  have ht := turn_any B g c l F N false o w hl hBw hN hF hown hg hb
  go_enter Try.func54, Try.ntmps54
  go_wp2_with (go_at_call 64; (with_reducible refine ht.mono ?_); rintro e w1 ⟨rfl, hp⟩)
  go_ret
  exact ⟨rfl, hp⟩
theorem byte_bits (x y : UInt8) (h : ∀ q, q < 8 → x.toNat / 2 ^ q % 2 = y.toNat / 2 ^ q % 2) : x = y := by
  apply UInt8.toNat_inj.1
  have hx := x.toNat_lt
  have hy := y.toNat_lt
  have h0 := h 0 (by omega)
  have h1 := h 1 (by omega)
  have h2 := h 2 (by omega)
  have h3 := h 3 (by omega)
  have h4 := h 4 (by omega)
  have h5 := h 5 (by omega)
  have h6 := h 6 (by omega)
  have h7 := h 7 (by omega)
  simp only [Nat.reducePow] at *
  omega
theorem rows_same {l m : List UInt8} (hlen : l.length = m.length) (h : ∀ j, bit l j = bit m j) : l = m := by
  apply List.ext_getElem hlen
  intro i h1 h2
  apply byte_bits
  intro q hq
  rw [← bit_nat h1 hq, ← bit_nat h2 hq, h]
/-- Bits that were all set are none that were not; a run of them counts. -/
theorem tn_all {l : List UInt8} {F n : Nat} (h : ∀ j, F ≤ j → j < F + n → bit l j = false) : tn l F true n = n := by
  induction n with
  | zero => rfl
  | succ n ih =>
    unfold tn
    rw [ih fun j h1 h2 => h j h1 (by omega), h (F + n) (by omega) (by omega)]
    rfl
theorem cnt_run {l : List UInt8} {F n : Nat} (h : ∀ j, F ≤ j → j < F + n → bit l j = true) : cnt l (F + n) = cnt l F + n := by
  induction n with
  | zero => rfl
  | succ n ih =>
    rw [show F + (n + 1) = F + n + 1 by omega]
    show cnt l (F + n) + (bit l (F + n)).toNat = _
    rw [ih fun j h1 h2 => h j h1 (by omega), h (F + n) (by omega) (by omega)]
    show cnt l F + n + 1 = _
    omega
theorem cnt_gap {l : List UInt8} {F n : Nat} (h : ∀ j, F ≤ j → j < F + n → bit l j = false) : cnt l (F + n) = cnt l F := by
  induction n with
  | zero => rfl
  | succ n ih =>
    rw [show F + (n + 1) = F + n + 1 by omega]
    show cnt l (F + n) + (bit l (F + n)).toNat = _
    rw [ih fun j h1 h2 => h j h1 (by omega), h (F + n) (by omega) (by omega)]
    rfl
end Go.Proofs.Ytflodljccloobaa
