/- Numbers as digits: plain facts for TextNumbers. -/
import Derived.Test.YtikehhcbjmcfdaaDoorTxtD
import Derived.Test.YtikehhcbjmcfdaaDoorTxtN
import Derived.Laws.Bits64b
import Derived.IntWalk
import Derived.Laws.DeepStrings4
namespace Go.Proofs.YtikehhcbjmcfdaaDoor
open Go.ChangeShapes Go.WideShapes Go.ChangeAt Go.RowKit
set_option linter.unusedVariables false
theorem digC_nat {k : Nat} (h : k < 10) : (digC k).toNat = 48 + k := by
  have h0 : (digC k).toNat = (48 + k) % 256 := UInt8.toNat_ofNat'
  omega
theorem digC_worth {k : Nat} (h : k < 10) : worthS ((digC k).toNat : Int) = k := by
  rw [digC_nat h]
  unfold worthS
  rw [if_pos (by omega)]
  omega
theorem decS_num (n : Nat) : numF 10 (decS n) = some (n : Int) := by
  induction n using Nat.strongRecOn with
  | ind n ih =>
    by_cases h : n < 10
    · rw [decS, if_pos h]
      show (if worthS ((digC n).toNat : Int) < 10 then some (0 * 10 + worthS ((digC n).toNat : Int)) else none) = _
      rw [digC_worth h, if_pos (by omega)]
      congr 1
      omega
    · rw [decS_big h, numF_snoc 10 _ _ (ih (n / 10) (by omega)), digC_worth (by omega), if_pos (by omega)]
      congr 1
      omega
theorem decS_sign (n : Nat) : ∀ c ∈ decS n, 48 ≤ c.toNat ∧ c.toNat ≤ 57 := by
  induction n using Nat.strongRecOn with
  | ind n ih =>
    intro c hc
    by_cases h : n < 10
    · rw [decS, if_pos h] at hc
      obtain rfl : c = digC n := by simpa using hc
      rw [digC_nat h]
      omega
    · rw [decS_big h] at hc
      rcases List.mem_append.1 hc with h1 | h1
      · exact ih (n / 10) (by omega) c h1
      · obtain rfl : c = digC (n % 10) := by simpa using h1
        rw [digC_nat (by omega)]
        omega
theorem decS_pos (n : Nat) : 1 ≤ (decS n).length := by
  by_cases h : n < 10
  · rw [decS, if_pos h]; simp
  · rw [decS_big h, List.length_append]; simp
theorem decS_le : ∀ (k n : Nat), n < 10 ^ (k + 1) → (decS n).length ≤ k + 1 := by
  intro k
  induction k with
  | zero => intro n h; rw [decS, if_pos (by omega)]; simp
  | succ k ih =>
    intro n h
    by_cases h1 : n < 10
    · rw [decS, if_pos h1]; simp
    · rw [decS_big h1, List.length_append]
      have := ih (n / 10) (by rw [Nat.pow_succ] at h; omega)
      simp
      omega
theorem decS_head (n : Nat) (h : 1 ≤ n) : (decS n).head? ≠ some 48 := by
  induction n using Nat.strongRecOn with
  | ind n ih =>
    by_cases h1 : n < 10
    · rw [decS, if_pos h1]
      intro e
      have e' : digC n = 48 := by simpa using e
      have := digC_nat h1
      rw [e'] at this
      have h48 : (48 : UInt8).toNat = 48 := rfl
      omega
    · rw [decS_big h1]
      have hp := decS_pos (n / 10)
      have h2 := ih (n / 10) (by omega) (by omega)
      intro e
      apply h2
      rw [List.head?_append] at e
      generalize decS (n / 10) = l at *
      cases l with
      | nil => simp at hp
      | cons a l => simpa using e
theorem no_x {l : List UInt8} (h : ∀ c ∈ l, c.toNat ≤ 57) : Lib.hasPrefix l [48, 120] = false := by
  rw [Bool.eq_false_iff]
  intro e
  match l, h, e with
  | [], _, e => exact absurd e (by decide)
  | [a], _, e => simp [Lib.hasPrefix] at e
  | a :: b :: l, h, e =>
    have hb : b = 120 := by simp [Lib.hasPrefix] at e; exact e.2.symm
    have := h b (by simp)
    rw [hb] at this
    exact absurd this (by decide)
theorem numS_dec {n : Nat} (hn : n ≤ 999999999) : numS (decS n) = ((n : Int), true) := by
  have hp := decS_pos n
  have hl := decS_le 8 n (by omega)
  unfold numS
  rw [if_neg (by rw [no_x (fun c hc => (decS_sign n c hc).2)]; decide), if_neg ?_]
  · unfold numR
    rw [if_neg (by omega), decS_num]
  · rintro ⟨h1, h2⟩
    by_cases h0 : n = 0
    · subst h0
      rw [decS, if_pos (by omega)] at h1
      simp at h1
    · exact decS_head n (by omega) h2
theorem numS_pre {n : Nat} (c : UInt8) (hc : c.toNat ≤ 57) (hw : c = 48 ∨ ¬ worthS (c.toNat : Int) < 10) : (numS (c :: decS n)).2 = false := by
  have hp := decS_pos n
  unfold numS
  rw [if_neg (by rw [no_x (fun d hd => by
    rcases List.mem_cons.1 hd with rfl | hd
    · exact hc
    · exact (decS_sign n d hd).2)]; decide)]
  split
  · rfl
  · rename_i h
    have hw' : ¬ worthS (c.toNat : Int) < 10 := by
      rcases hw with rfl | hw
      · exact absurd ⟨by rw [List.length_cons]; omega, rfl⟩ h
      · exact hw
    unfold numR
    split
    · rfl
    · have e : numF 10 (c :: decS n) = none := by
        show numFrom 10 (if worthS (c.toNat : Int) < 10 then _ else none) (decS n) = none
        rw [if_neg hw', numFrom_none]
      rw [e]
theorem numS_hex {n : Int} {h : List UInt8} (h1 : 1 ≤ h.length) (h2 : h.length ≤ 7) (hv : numF 16 h = some n) : numS ([48, 120] ++ h) = (n, true) := by
  unfold numS
  rw [if_pos (by simp [Lib.hasPrefix])]
  have e : Lib.trimPrefix ([48, 120] ++ h) [48, 120] = h := by simp [Lib.trimPrefix, Lib.hasPrefix]
  rw [e]
  unfold numR
  rw [if_neg (by omega), hv]
/-- The signs of the sixteen digits, small and great. -/
def hexl : ByteArray := ⟨#[48, 49, 50, 51, 52, 53, 54, 55, 56, 57, 97, 98, 99, 100, 101, 102]⟩
def hexu : ByteArray := ⟨#[48, 49, 50, 51, 52, 53, 54, 55, 56, 57, 65, 66, 67, 68, 69, 70]⟩
def hexAt (t : ByteArray) (i : Nat) : UInt8 := ((t.extract i (i + 1)).data.toList).headD 0
theorem hexl_at : ∀ i, i < 16 → (hexl.extract i (i + 1)).data.toList = [hexAt hexl i] ∧ worthS ((hexAt hexl i).toNat : Int) = i := by decide +kernel
theorem hexu_at : ∀ i, i < 16 → (hexu.extract i (i + 1)).data.toList = [hexAt hexu i] ∧ worthS ((hexAt hexu i).toNat : Int) = i := by decide +kernel
theorem hex_step {v : Nat} {n : Int} {c : UInt8} {h : List UInt8} (hc : worthS (c.toNat : Int) = (v % 16 : Nat)) (hv : numFrom 16 (some (v : Int)) h = some n) : numFrom 16 (some ((v / 16 : Nat) : Int)) (c :: h) = some n := by
  show numFrom 16 (if worthS (c.toNat : Int) < 16 then some (((v / 16 : Nat) : Int) * 16 + worthS (c.toNat : Int)) else none) h = some n
  rw [hc, if_pos (by omega), show ((v / 16 : Nat) : Int) * 16 + ((v % 16 : Nat) : Int) = (v : Int) by omega]
  exact hv
theorem and_15 (V : Nat) (hV : V < 268435456) : bits .and .i64 (V : Int) 15 = ((V % 16 : Nat) : Int) := by
  have h1 : (BitVec.ofInt 64 (V : Int)).toNat = V := by
    rw [BitVec.ofInt_natCast, BitVec.toNat_ofNat]; exact Nat.mod_eq_of_lt (by omega)
  show IntKind.i64.wrap ((BitVec.ofInt 64 (V : Int) &&& BitVec.ofInt 64 15).toNat : Int) = _
  rw [BitVec.toNat_and, h1, show (BitVec.ofInt 64 15).toNat = 2 ^ 4 - 1 from rfl, Nat.and_two_pow_sub_one_eq_mod]
  show IntKind.i64.wrap ((V % 16 : Nat) : Int) = ((V % 16 : Nat) : Int)
  generalize hz : V % 16 = z
  exact IntWalk.i64_in _ (by omega)
theorem slice_one (s : ByteArray) (i : Nat) (h : i < s.size) (hs : s.size ≤ 100) (w : World) : (Instr.slice 9 (.string s) (some (.int .i64 i)) (some (.int .i64 ((i : Int) + 1))) none).run Tryd.prog w = .ok (.string (s.extract i (i + 1))) w := by
  rw [run_slice_string_if _ _ _ _ _ _ _ Tryd.underlying9, if_pos (by omega), if_pos (by omega)]
  rfl
end Go.Proofs.YtikehhcbjmcfdaaDoor
