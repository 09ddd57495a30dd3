/- Package ring: Need. -/
import Derived.Test.YtpfackjnnkjjdaaRg2
namespace Go.Proofs.Ytpfackjnnkjjdaa
open Go.ChangeShapes Go.WideShapes Go.ChangeAt Go.RowKit Go.Lib
set_option linter.unusedVariables false
set_option linter.unusedSimpArgs false
namespace Rg
/-- How many sectors a record of n bytes has. -/
def need (n : Nat) : Nat := if n = 0 then 1 else (n - 1) / 480 + 1
theorem need_pos (n : Nat) : 1 ≤ need n := by unfold need; split <;> omega
theorem need_le (n : Nat) (h : n ≤ 32768) : need n ≤ 69 := by unfold need; split <;> omega
set_option maxRecDepth 100000 in
set_option maxHeartbeats 1000000 in
theorem need_any (n : Nat) (h : (n : Int) ≤ 1000000) (w : World) : Calls Try.prog 56 #[.int .i64 (n : Nat)] w fun e w' => e = .returned (.int .i64 (need n : Nat)) ∧ w = w' := by
  by_cases h0 : n = 0
  · subst h0
    go_enter Try.func56, Try.ntmps56
    go_wp2
    go_ret
    exact ⟨rfl, rfl⟩
  · obtain ⟨m, rfl⟩ : ∃ m, n = m + 1 := ⟨n - 1, by omega⟩
    have hnx : ¬ ((m : Int) + 1) ≤ 0 := by omega
    have hm : (m : Int) ≤ 999999 := by omega
    have e3 : need (m + 1) = m / 480 + 1 := by
      unfold need
      rw [if_neg (Nat.succ_ne_zero m), Nat.add_sub_cancel]
    rw [e3]
    obtain ⟨k, hk⟩ : ∃ k, m / 480 = k := ⟨_, rfl⟩
    have hd : (k : Int) ≤ 3000 := by omega
    have e1 : (m : Int) / 480 = (k : Int) := by omega
    have e2 : (m : Int).tdiv 480 = (k : Int) := by rw [Int.tdiv_eq_ediv_of_nonneg (by omega)]; exact e1
    rw [hk]
    clear e3 h h0 hk
    rw [show ((m + 1 : Nat) : Int) = (m : Int) + 1 by omega, show ((k + 1 : Nat) : Int) = (k : Int) + 1 by omega]
    go_enter Try.func56, Try.ntmps56
    go_wp2
    go_ret
    exact ⟨rfl, rfl⟩
end Rg
end Go.Proofs.Ytpfackjnnkjjdaa
