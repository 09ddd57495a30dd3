/- Package bits: bits of a row; size, Has, New, Count: contracts. -/
import Derived.Test.YtflodljccloobaaRows
import Derived.Test.YtflodljccloobaaChecked
import Derived.Test.YtflodljccloobaaKeep
import Derived.Test.YtflodljccloobaaCalmT
import Derived.Lib.Hide
import Derived.OwnWalk
import Derived.LoopTactic
namespace Go.Proofs.Ytflodljccloobaa
open Go.ChangeShapes Go.WideShapes Go.ChangeAt Go.RowKit Go.Lib
set_option linter.unusedVariables false
/-- The i-th bit of a row. -/
def bit (l : List UInt8) (i : Nat) : Bool := decide ((l.getD (i / 8) 0).toNat / 2 ^ (i % 8) % 2 = 1)
theorem bit_far {l : List UInt8} {i : Nat} (h : 8 * l.length ≤ i) : bit l i = false := by
  unfold bit
  rw [List.getD_eq_getElem?_getD, List.getElem?_eq_none (by omega)]
  simp
theorem bit_at {l : List UInt8} {i : Nat} (h : i / 8 < l.length) : bit l i = decide ((l[i / 8]).toNat / 2 ^ (i % 8) % 2 = 1) := by
  unfold bit
  rw [List.getD_eq_getElem?_getD, List.getElem?_eq_getElem h]
  rfl
theorem and1 (x : Nat) (h : x < 256) : bits BinOp.and IntKind.u8 (x : Int) 1 = ((x % 2 : Nat) : Int) := by
  have key : ∀ x : Fin 256, bits BinOp.and IntKind.u8 ((x.val : Nat) : Int) 1 = ((x.val % 2 : Nat) : Int) := by decide +kernel
  exact key ⟨x, h⟩
theorem size_any (v : Value) (l : List UInt8) (w : World) (hl : l.length ≤ 1000000) (hd : Sl w w.heap.size v l.length (bs l)) :
    Calls Try.prog 66 #[v] w fun e w' => e = .returned (.int .i64 ((8 * l.length : Nat))) ∧ w = w' := by
  obtain ⟨A, c, rfl, hc1, hc2⟩ := hd.form
  have hlx : (l.length : Int) ≤ 1000000 := by omega
  go_enter Try.func66, Try.ntmps66
  go_wp2
  go_ret
  exact ⟨by go_num, rfl⟩
theorem has_any (v : Value) (l : List UInt8) (i : Int) (w : World) (hl : l.length ≤ 1000000) (hd : Sl w w.heap.size v l.length (bs l)) :
    Calls Try.prog 67 #[v, .int .i64 i] w fun e w' => e = .returned (.bool (decide (0 ≤ i) && bit l i.toNat)) ∧ w = w' := by
  have hsz := size_any v l w hl hd
  obtain ⟨A, c, rfl, hc1, hc2⟩ := hd.form
  have hlx : (l.length : Int) ≤ 1000000 := by omega
  by_cases h0 : i < 0
  · have e : decide (0 ≤ i) = false := decide_eq_false (by omega)
    rw [e, Bool.false_and]
    clear e
    go_enter Try.func67, Try.ntmps67
    go_wp2
    go_ret
    exact ⟨rfl, rfl⟩
  · obtain ⟨I, rfl⟩ : ∃ I : Nat, i = I := ⟨i.toNat, by omega⟩
    have e : decide (0 ≤ (I : Int)) = true := decide_eq_true (by omega)
    rw [e, Bool.true_and, Int.toNat_natCast]
    clear e h0
    by_cases h1 : 8 * l.length ≤ I
    · rw [bit_far h1]
      have h1x : ((8 * l.length : Nat) : Int) ≤ I := by omega
      go_enter Try.func67, Try.ntmps67
      go_wp2_with (go_at_call 66; (with_reducible refine hsz.mono ?_); rintro e w1 ⟨rfl, rfl⟩)
      go_ret
      exact ⟨rfl, rfl⟩
    · have h2 : I / 8 < l.length := by omega
      have h1x : (I : Int) < ((8 * l.length : Nat) : Int) := by omega
      rw [bit_at h2]
      obtain ⟨b, off, rfl, _, hat⟩ := hd.at_ (by omega)
      have hcl : w.cell? ⟨b, off + I / 8, none⟩ = some (.int .u8 ((l[I / 8]).toNat : Int)) := hat _ _ (by rw [List.getElem?_eq_getElem (by rw [bs_len]; exact h2)]; simp [bs])
      clear hat hd
      have hx := (l[I / 8]).toNat_lt
      generalize (l[I / 8]).toNat = x at *
      have hq : x / 2 ^ (I % 8) < 256 := Nat.lt_of_le_of_lt (Nat.div_le_self _ _) (by omega)
      have ha : bits BinOp.and IntKind.u8 ((x : Int) / 2 ^ (I % 8)) 1 = ((x / 2 ^ (I % 8) % 2 : Nat) : Int) := by
        rw [← and1 _ hq]; simp
      go_enter Try.func67, Try.ntmps67
      go_wp2_with (go_at_call 66; (with_reducible refine hsz.mono ?_); rintro e w1 ⟨rfl, rfl⟩)
      go_ret
      refine ⟨?_, rfl⟩
      have e : (x : Int) / 2 ^ (I % 8) % 2 = ((x / 2 ^ (I % 8) % 2 : Nat) : Int) := by simp
      rw [e]
      rcases Nat.mod_two_eq_zero_or_one (x / 2 ^ (I % 8)) with h | h <;> rw [h] <;> rfl
/-- How many bits below the n-th are set. -/
def cnt (l : List UInt8) : Nat → Nat
  | 0 => 0
  | n + 1 => cnt l n + (bit l n).toNat
def pop8 (x : Nat) : Nat := x % 2 + x / 2 % 2 + x / 4 % 2 + x / 8 % 2 + x / 16 % 2 + x / 32 % 2 + x / 64 % 2 + x / 128 % 2
theorem cnt_le (l : List UInt8) (n : Nat) : cnt l n ≤ n := by
  induction n with
  | zero => exact Nat.le_refl _
  | succ n ih => unfold cnt; cases bit l n <;> simp <;> omega
theorem bit_nat {l : List UInt8} {i j : Nat} (h : i < l.length) (hj : j < 8) : (bit l (8 * i + j)).toNat = (l[i]).toNat / 2 ^ j % 2 := by
  have h1 : (8 * i + j) / 8 = i := by omega
  have h2 : (8 * i + j) % 8 = j := by omega
  rw [bit_at (by omega), h2]
  simp only [h1]
  rcases Nat.mod_two_eq_zero_or_one ((l[i]).toNat / 2 ^ j) with h | h <;> rw [h] <;> rfl
theorem cnt_byte {l : List UInt8} {i : Nat} (h : i < l.length) : cnt l (8 * (i + 1)) = cnt l (8 * i) + pop8 (l[i]).toNat := by
  rw [show 8 * (i + 1) = 8 * i + 7 + 1 by omega]
  simp only [cnt]
  rw [bit_nat h (by omega), bit_nat h (by omega), bit_nat h (by omega), bit_nat h (by omega), bit_nat h (by omega), bit_nat h (by omega), bit_nat h (by omega), show bit l (8 * i) = bit l (8 * i + 0) from rfl, bit_nat h (by omega)]
  unfold pop8
  simp
  omega
theorem pop_step (x : Nat) (h0 : 0 < x) (h : x < 256) : ∃ y : Nat, bits BinOp.and IntKind.u8 (x : Int) ((x : Int) - 1) = (y : Int) ∧ y < x ∧ pop8 y + 1 = pop8 x := by
  have key : ∀ x : Fin 256, 0 < x.val → bits BinOp.and IntKind.u8 ((x.val : Nat) : Int) (((x.val : Nat) : Int) - 1) = ((x.val &&& (x.val - 1) : Nat) : Int) ∧ x.val &&& (x.val - 1) < x.val ∧ pop8 (x.val &&& (x.val - 1)) + 1 = pop8 x.val := by decide +kernel
  exact ⟨_, key ⟨x, h⟩ h0⟩
end Go.Proofs.Ytflodljccloobaa
