/- The first check of the statements of layer 1 (a number there and back, serials that go round): it tells true. -/
import Derived.Test.YtjibednmdnnpbaaBinb
namespace Go.Proofs.Ytjibednmdnnpbaa
open Go.ChangeShapes Go.WideShapes Go.ChangeAt Go.RowKit
set_option linter.unusedVariables false

theorem own : ownKnob Try.prog.godebug = none := by kernel_rfl
theorem laidOut : laidOutB Try.prog = true := by kernel_rfl

theorem known1_any (w : World) : Calls Try.prog 15 #[] w fun e w' => e = .returned (.bool true) ∧ Below w.heap.size w w' := by
  go_enter Try.func15, Try.ntmps15
  go_wp2_with (go_at_call 16; refine (put_any _ [] 258 3 _ Sl.nil_ (by omega) (by simp) (by omega) (by omega)).mono ?_; rintro e w' ⟨v1, rfl, hown1, hb1⟩)
  have hp1 : putS [] 258 3 = [0, 1, 2] := by decide
  rw [hp1] at hown1
  have hsl1 := Sl.of_own hown1
  obtain ⟨A1, c1, rfl, _, _⟩ := hsl1.form
  have hs1 := hb1.size
  have hg : getS [0, 1, 2] 1 2 = (258, true) := by decide
  have HG := Lib.hid hg
  clear hp1 hown1 hg
  go_wp2_with (go_at_call 18; refine (get_any _ [0, 1, 2] 1 2 _ hsl1 (by simp) (by omega) (by omega) (by omega) (by omega)).mono ?_; rw [HG.out]; rintro e w' ⟨rfl, rfl⟩)
  refine (less_any _ _ _).mono ?_
  rw [show decide (0 < gapZ 4294967295 1) = true by decide]
  rintro e w2 ⟨rfl, rfl⟩
  go_wp2_with (go_at_call 22; refine (gap_any _ _ _).mono ?_; rw [show gapZ 4294967295 0 = 1 by decide]; rintro e w' ⟨rfl, rfl⟩)
  refine (within_any _ _ _ _).mono ?_
  rw [show decide (((0 : Int) - 4294967295) % 4294967296 < 2) = true by decide]
  rintro e w2 ⟨rfl, rfl⟩
  go_wp2_with fail
  refine (pad_any _ [0, 1, 2] 4 _ hsl1 (by simp) (by omega) (by omega)).mono ?_
  rw [show padS [0, 1, 2] 4 = [0, 1, 2, 0] by decide]
  rintro e w2 ⟨v2, rfl, hown2, hb2⟩
  obtain ⟨A2, c2, rfl, _, _⟩ := (Sl.of_own hown2).form
  go_wp2_with fail
  go_ret
  exact ⟨rfl, hb1.trans (hb2.mono hs1)⟩
end Go.Proofs.Ytjibednmdnnpbaa
