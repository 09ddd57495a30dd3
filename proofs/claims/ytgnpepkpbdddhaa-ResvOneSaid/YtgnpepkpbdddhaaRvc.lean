/- ResvOne: two replies held against each other; notices against none. -/
import Derived.Test.YtgnpepkpbdddhaaRva
import Derived.BigQuiet
import Derived.Deep.QuietTactic
namespace Go.Proofs.Ytgnpepkpbdddhaa
open Go.ChangeShapes Go.WideShapes Go.ChangeAt Go.RowKit Go.Lib
set_option linter.unusedVariables false
set_option linter.unusedSimpArgs false
namespace Rv
theorem notes_none (A : Option Addr) (n c : Nat) (w : World) : Calls Try.prog 26 #[.slice A n c, .slice none 0 0] w fun e w' => ∃ b, e = .returned (.bool b) ∧ w = w' := by
  by_cases h0 : n = 0
  · subst h0
    go_enter Try.func26, Try.ntmps26
    go_wp2
    go_loopw [5] (fun s5 wr => s5 = .int .i64 0 ∧ w = wr) (fun _ _ => 0)
    case atStart => exact ⟨rfl, rfl⟩
    case round =>
      obtain ⟨rfl, rfl⟩ := hrel
      go_wp2
      go_ret
      exact ⟨_, rfl, rfl⟩
  · have h1 : ¬ (n : Int) = 0 := by omega
    have h2 : ((n : Int) != 0) = true := bne_iff_ne.2 h1
    go_enter Try.func26, Try.ntmps26
    go_wp2
    go_ret
    exact ⟨_, rfl, rfl⟩
theorem str0 (w : World) : (convert 38 9 (.slice none 0 0)).run Try.prog w = .ok (.string ⟨#[]⟩) w := by kernel_rfl
set_option maxRecDepth 100000 in
set_option maxHeartbeats 1000000 in
theorem same_any (s k c s2 k2 c2 : Int) (w : World) : Calls Try.prog 25 #[.agg #[Value.int .i64 s, .int .i64 k, .int .i64 c, .slice none 0 0, .int .i64 0], .agg #[Value.int .i64 s2, .int .i64 k2, .int .i64 c2, .slice none 0 0, .int .i64 0]] w fun e w' => ∃ b, e = .returned (.bool b) ∧ Below w.heap.size w w' := by
  go_enter Try.func25, Try.ntmps25
  have hst := fun w => str0 w
  have hb : ∀ a b, Below w.heap.size w ((w.alloc a).alloc b) := fun a b => ((Below.refl _ w).alloc (Nat.le_refl _) a).alloc (by simp) b
  go_wp2
  all_goals
    go_ret
    exact ⟨_, rfl, hb _ _⟩
end Rv
end Go.Proofs.Ytgnpepkpbdddhaa
