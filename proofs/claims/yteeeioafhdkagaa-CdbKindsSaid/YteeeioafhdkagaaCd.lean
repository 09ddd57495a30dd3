/- Package cdb: run, In, Out, head, wrong, kindOf: contracts. -/
import Derived.Test.YteeeioafhdkagaaPut
namespace Go.Proofs.Yteeeioafhdkagaa
open Go.ChangeShapes Go.WideShapes Go.ChangeAt Go.RowKit
set_option linter.unusedVariables false
/-- A command whose data and keys are none. -/
def cmdV (k a n t : Int) (f : Bool) : Value := .agg #[.int .i64 k, .int .i64 a, .int .i64 n, .slice none 0 0, .int .u64 0, .int .u64 0, .int .i64 t, .bool f]
def runS (n : Int) : Int := if n < 0 ∨ 32 < n then 0 else 8 * n
theorem runS_bound (n : Int) : 0 ≤ runS n ∧ runS n ≤ 256 := by unfold runS; split <;> omega
theorem run_any (n : Int) (w : World) : Calls Try.prog 27 #[.int .i64 n] w fun e w' => e = .returned (.int .i64 (runS n)) ∧ w = w' := by
  by_cases h1 : n < 0
  · have e : runS n = 0 := if_pos (.inl h1)
    have HE := Lib.hid e
    go_enter Try.func27, Try.ntmps27
    go_wp2
    go_ret
    first | exact ⟨rfl, rfl⟩ | exact ⟨by rw [e]; rfl, rfl⟩
  · by_cases h2 : 32 < n
    · have e : runS n = 0 := if_pos (.inr h2)
      have HE := Lib.hid e
      go_enter Try.func27, Try.ntmps27
      go_wp2
      go_ret
      first | exact ⟨rfl, rfl⟩ | exact ⟨by rw [e]; rfl, rfl⟩
    · have e : runS n = 8 * n := if_neg (by omega)
      have HE := Lib.hid e
      have hw : IntKind.i64.wrap (n * 8) = 8 * n := by rw [IntWalk.i64_in _ (by omega)]; omega
      go_enter Try.func27, Try.ntmps27
      go_wp2
      go_ret
      first | exact ⟨rfl, rfl⟩ | exact ⟨by rw [e]; rfl, rfl⟩
def inS (k n : Int) : Int := if k = 2 then runS n else if k = 7 then 8 else if k = 8 then 36 else if k = 9 then 18 else if k = 16 then 136 else if k = 17 then 24 else 0
def outS (k n : Int) : Int := if k = 3 then runS n else if k = 6 then 2 * runS n else if 10 ≤ k ∧ k ≤ 15 then 24 else 0
theorem In_any (k a n t : Int) (f : Bool) (w : World) : Calls Try.prog 11 #[cmdV k a n t f] w fun e w' => e = .returned (.int .i64 (inS k n)) ∧ Below w.heap.size w w' := by
  have HI : Hid (inS k n = if k = 2 then runS n else if k = 7 then 8 else if k = 8 then 36 else if k = 9 then 18 else if k = 16 then 136 else if k = 17 then 24 else 0) := Lib.hid rfl
  unfold cmdV
  generalize inS k n = r at *
  go_enter Try.func11, Try.ntmps11
  go_wp2_with (go_at_call 27; with_reducible refine (run_any n _).mono ?_; rintro e w1 ⟨rfl, rfl⟩)
  all_goals
    go_ret
    refine ⟨?_, (Below.refl _ _).alloc (Nat.le_refl _) _⟩
    have h := HI.out
    simp_all
theorem Out_any (k a n t : Int) (f : Bool) (w : World) : Calls Try.prog 10 #[cmdV k a n t f] w fun e w' => e = .returned (.int .i64 (outS k n)) ∧ Below w.heap.size w w' := by
  have HI : Hid (outS k n = if k = 3 then runS n else if k = 6 then 2 * runS n else if 10 ≤ k ∧ k ≤ 15 then 24 else 0) := Lib.hid rfl
  have hb := runS_bound n
  have hw : IntKind.i64.wrap (2 * runS n) = 2 * runS n := IntWalk.i64_in _ (by omega)
  have hru := run_any n
  generalize runS n = u at *
  unfold cmdV
  generalize outS k n = r at *
  go_enter Try.func10, Try.ntmps10
  go_wp2_with (go_at_call 27; with_reducible refine (hru _).mono ?_; rintro e w1 ⟨rfl, rfl⟩)
  all_goals
    go_ret
    refine ⟨?_, (Below.refl _ _).alloc (Nat.le_refl _) _⟩
    have h := HI.out
    first
      | (simp_all; done)
      | (simp_all; omega)
      | (rw [h, if_neg (by omega), if_neg (by omega), if_pos (by omega)])
      | (rw [h, if_neg (by omega), if_neg (by omega), if_neg (by omega)])
def hdS (k : Int) : Nat × Nat × Bool × Bool :=
  if k == 1 then (0, 0, false, true) else if k == 9 then (3, 0, false, true) else if k == 8 then (18, 0, false, true) else if k == 7 then (37, 0, false, true)
  else if k == 2 then (136, 0, false, true) else if k == 3 then (138, 0, false, true) else if k == 4 then (145, 0, false, true) else if k == 5 then (66, 0, false, true) else if k == 6 then (137, 0, false, true)
  else if k == 10 then (95, 0, true, true) else if k == 12 then (95, 1, true, true) else if k == 13 then (95, 2, true, true) else if k == 14 then (95, 3, true, true) else if k == 15 then (95, 4, true, true) else if k == 11 then (95, 6, true, true)
  else if k == 16 then (94, 0, true, true) else if k == 17 then (94, 1, true, true) else (0, 0, false, false)
def hdV (x : Nat × Nat × Bool × Bool) : Value := .tuple #[.int .u8 (x.1 : Nat), .int .u8 (x.2.1 : Nat), .bool x.2.2.1, .bool x.2.2.2]
set_option maxHeartbeats 1000000 in
theorem head_any (k : Int) (w : World) : Calls Try.prog 28 #[.int .i64 k] w fun e w' => e = .returned (hdV (hdS k)) ∧ w = w' := by
  obtain ⟨x, hx⟩ : ∃ x, x = hdS k := ⟨_, rfl⟩
  rw [← hx]
  unfold hdS at hx
  have HX := Lib.hid hx
  clear hx
  go_enter Try.func28, Try.ntmps28
  go_wp2
  all_goals
    have hx := HX.out
    clear HX
    repeat (first | rw [if_pos (by assumption)] at hx | rw [if_neg (by rw [Bool.not_eq_true]; assumption)] at hx)
    subst hx
    refine bodyPost_ret (v := hdV _) (by simp [results, Try.results28, go_sem, hdV]; try rfl) rfl ⟨rfl, rfl⟩
end Go.Proofs.Yteeeioafhdkagaa
