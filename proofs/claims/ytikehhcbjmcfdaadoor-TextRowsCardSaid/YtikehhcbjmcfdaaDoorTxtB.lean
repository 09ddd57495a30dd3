/- Package text: Bool, and what may stand in keys and values: contracts. -/
import Derived.Test.YtikehhcbjmcfdaaDoorTxt
import Derived.Test.YtikehhcbjmcfdaaDoorShelf
import Derived.BigQuiet
import Derived.Deep.QuietTactic
namespace Go.Proofs.YtikehhcbjmcfdaaDoor
open Go.ChangeShapes Go.WideShapes Go.ChangeAt Go.RowKit
set_option linter.unusedVariables false

/-- May it be a value? -/
def valueS (l : List UInt8) : Bool := decide ((l.length : Int) ≤ 255) && decide (Lib.indexByte l 0 < 0)
theorem rightValue_any (s : ByteArray) (w : World) (hs : s.size ≤ maxLen) :
    Calls Tryd.prog 38 #[.string s] w fun e w' => e = .returned (.bool (valueS s.data.toList)) ∧ w = w' := by
  have hsz : s.data.toList.length = s.size := by simp
  go_enter Tryd.func38, Tryd.ntmps38
  go_wp2_with (go_at_call 27; refine (Go.Proofs.Tryd.strings_IndexByte _ _ _).mono ?_; rintro e w' ⟨rfl, rfl⟩)
  all_goals go_ret
  all_goals refine ⟨ret_b ?_, rfl⟩
  all_goals unfold valueS
  all_goals rw [hsz]
  · rw [decide_eq_true (by omega : (s.size : Int) ≤ 255), Bool.true_and]
  · rw [decide_eq_false (by omega : ¬ (s.size : Int) ≤ 255), Bool.false_and]
/-- Which of Yes and No. -/
def boolS (l : List UInt8) : Bool × Bool := (l == [89, 101, 115], l == [89, 101, 115] || l == [78, 111])
theorem ret_bb {l : List UInt8} {v t : Bool} (h : boolS l = (v, t)) : Ending.returned (.tuple #[.bool v, .bool t]) = .returned (.tuple #[.bool (boolS l).1, .bool (boolS l).2]) := by rw [h]
theorem Bool_any (s : ByteArray) (w : World) :
    Calls Tryd.prog 42 #[.string s] w fun e w' => e = .returned (.tuple #[.bool (boolS s.toList).1, .bool (boolS s.toList).2]) ∧ w = w' := by
  go_enter Tryd.func42, Tryd.ntmps42
  go_wp2
  · rename_i h
    exact bodyPost_ret (v := .tuple #[.bool true, .bool true]) (by simp [results, Tryd.results42, go_sem]) rfl ⟨ret_bb (by unfold boolS; rw [h]; rfl), rfl⟩
  · rename_i h1 h2
    exact bodyPost_ret (v := .tuple #[.bool false, .bool true]) (by simp [results, Tryd.results42, go_sem]) rfl ⟨ret_bb (by unfold boolS; rw [h1, h2]; rfl), rfl⟩
  · rename_i h1 h2
    exact bodyPost_ret (v := .tuple #[.bool false, .bool false]) (by simp [results, Tryd.results42, go_sem]) rfl ⟨ret_bb (by unfold boolS; rw [h1, h2]; rfl), rfl⟩
/-- May the sign stand in a key? -/
def keySign (c : UInt8) : Bool := decide ((97 : Int) ≤ c.toNat ∧ (c.toNat : Int) ≤ 122) || decide ((65 : Int) ≤ c.toNat ∧ (c.toNat : Int) ≤ 90) || decide ((48 : Int) ≤ c.toNat ∧ (c.toNat : Int) ≤ 57) || decide (0 ≤ Lib.indexByte [46, 45, 43, 64, 95] c)
/-- May it be a key? -/
def keyS (l : List UInt8) : Bool := decide ((1 : Int) ≤ l.length) && decide ((l.length : Int) ≤ 63) && l.all keySign
theorem all_take {s : ByteArray} {p : UInt8 → Bool} {k : Nat} (h : k < s.size) (h1 : (s.data.toList.take k).all p = true) : (s.data.toList.take (k + 1)).all p = p s[k] := by
  rw [take_snoc s k h, List.all_append, h1]; simp
theorem all_dead {s : ByteArray} {p : UInt8 → Bool} {k : Nat} (h : (s.data.toList.take k).all p = false) : s.data.toList.all p = false := by
  rw [← List.take_append_drop k s.data.toList, List.all_append, h, Bool.false_and]
set_option maxHeartbeats 1000000 in
theorem rightKey_any (s : ByteArray) (w : World) (hs : s.size ≤ maxLen) :
    Calls Tryd.prog 37 #[.string s] w fun e w' => e = .returned (.bool (keyS s.data.toList)) ∧ w = w' := by
  have hsz : s.data.toList.length = s.size := by simp
  unfold maxLen at hs
  by_cases hl : (s.size : Int) < 1 ∨ 63 < (s.size : Int)
  · go_enter Tryd.func37, Tryd.ntmps37
    go_wp2
    all_goals go_ret
    all_goals refine ⟨ret_b ?_, rfl⟩
    all_goals
      unfold keyS
      rw [hsz]
      rcases hl with h | h
      · rw [decide_eq_false (by omega : ¬ (1 : Int) ≤ s.size)]; simp
      · rw [decide_eq_false (by omega : ¬ (s.size : Int) ≤ 63)]; simp
  · have hl1 : ¬ ((s.size : Int) < 1) := by omega
    have hl2 : ¬ (63 < (s.size : Int)) := by omega
    clear hl
    go_enter Tryd.func37, Tryd.ntmps37
    go_wp2
    go_loop [3] (fun i => ∃ k : Nat, k ≤ s.size ∧ i = .int .i64 k ∧ (s.data.toList.take k).all keySign = true) (fun i => s.size - (intOf i).toNat)
    case atStart => exact ⟨0, Nat.zero_le _, rfl, rfl⟩
    case round =>
      obtain ⟨k, hk, rfl, hx⟩ := hrel
      by_cases hlt : k < s.size
      · have hts := all_take hlt hx
        have HS := Lib.hid hts
        clear hts hx
        go_wp2_with (first
          | (go_at_call 25; refine (low_any _ _).mono ?_; rintro e w' ⟨rfl, rfl⟩)
          | (go_at_call 45; refine (cap_any _ _).mono ?_; rintro e w' ⟨rfl, rfl⟩)
          | (go_at_call 26; refine (digit_any _ _).mono ?_; rintro e w' ⟨rfl, rfl⟩)
          | (go_at_call 27; refine (Go.Proofs.Tryd.strings_IndexByte _ _ _).mono ?_; rintro e w' ⟨rfl, rfl⟩))
        · rename_i h3 h2 h1 w' h
          have hks : keySign s[k] = false := by
            have h0 := h.2
            unfold keySign
            rw [decide_eq_false (by omega : ¬ ((97 : Int) ≤ s[k].toNat ∧ (s[k].toNat : Int) ≤ 122)), decide_eq_false (by omega : ¬ ((65 : Int) ≤ s[k].toNat ∧ (s[k].toNat : Int) ≤ 90)), decide_eq_false (by omega : ¬ ((48 : Int) ≤ s[k].toNat ∧ (s[k].toNat : Int) ≤ 57))]
            simpa using h0
          go_ret
          refine ⟨ret_b ?_, rfl⟩
          unfold keyS
          have h4 := HS.out
          rw [hks] at h4
          rw [all_dead h4, Bool.and_false]
        all_goals
          have hks : keySign s[k] = true := by
            unfold keySign
            first
              | (rw [decide_eq_true (by omega : (97 : Int) ≤ s[k].toNat ∧ (s[k].toNat : Int) ≤ 122)]; rfl)
              | (rw [decide_eq_true (by omega : (65 : Int) ≤ s[k].toNat ∧ (s[k].toNat : Int) ≤ 90)]; simp)
              | (rw [decide_eq_true (by omega : (48 : Int) ≤ s[k].toNat ∧ (s[k].toNat : Int) ≤ 57)]; simp)
              | (rename_i h
                 have h0 : (0 : Int) ≤ Lib.indexByte [46, 45, 43, 64, 95] s[k] := by
                   rcases h with h | h
                   · exfalso; simp at h; omega
                   · simpa using h
                 rw [decide_eq_true h0, Bool.or_true])
          refine ⟨⟨k + 1, by omega, by go_num, by rw [HS.out]; exact hks⟩, ?_⟩
          simp [intOf]
          omega
      · obtain rfl : k = s.size := by omega
        rw [List.take_of_length_le (by omega)] at hx
        go_wp2
        go_ret
        refine ⟨ret_b ?_, rfl⟩
        unfold keyS
        rw [hsz, hx, decide_eq_true (by omega : (1 : Int) ≤ s.size), decide_eq_true (by omega : (s.size : Int) ≤ 63)]
        rfl
end Go.Proofs.YtikehhcbjmcfdaaDoor
