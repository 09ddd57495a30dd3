/- BinHalves: for every two numbers the statement's function tells true and turns nothing that was there. No condition. -/
import Derived.Test.YtjibednmdnnpbaaKnown1
namespace Go.Proofs.Ytjibednmdnnpbaa
open Go.ChangeShapes Go.WideShapes Go.ChangeAt Go.RowKit
set_option linter.unusedVariables false
namespace Halves
def inB (a n x : Int) : Bool := decide ((x - a) % 4294967296 < n)
theorem within_c (a n b : Int) (w : World) : Calls Try.prog 26 #[.int .u32 a, .int .u32 n, .int .u32 b] w fun e w' => e = .returned (.bool (inB a n b)) ∧ w = w' := within_any a n b w
theorem gap_far (a : Int) : gapZ a ((a + 2147483648) % 4294967296) = -2147483648 := by unfold gapZ; split <;> omega
theorem gap_back (a : Int) : gapZ ((a + 2147483648) % 4294967296) a = -2147483648 := by unfold gapZ; split <;> omega
theorem gap_far_c (a : Int) (w : World) : Calls Try.prog 22 #[.int .u32 a, .int .u32 ((a + 2147483648) % 4294967296)] w fun e w' => e = .returned (.int .i64 (-2147483648)) ∧ w = w' := by
  have h := gap_any a ((a + 2147483648) % 4294967296) w; rw [gap_far] at h; exact h
theorem gap_back_c (a : Int) (w : World) : Calls Try.prog 22 #[.int .u32 ((a + 2147483648) % 4294967296), .int .u32 a] w fun e w' => e = .returned (.int .i64 (-2147483648)) ∧ w = w' := by
  have h := gap_any ((a + 2147483648) % 4294967296) a w; rw [gap_back] at h; exact h
theorem walk (a x : Int) (w : World) (ha : 0 ≤ a) (ha' : a ≤ 4294967295) (hx : 0 ≤ x) (hx' : x ≤ 4294967295) :
    Calls Try.prog 9 #[.int .u32 a, .int .u32 x] w fun e w' => e = .returned (.bool true) ∧ Below w.heap.size w w' := by
  have h3 : inB a 2147483648 ((a + 2147483648) % 4294967296) = false := decide_eq_false (by omega)
  by_cases h : (x - a) % 4294967296 < 2147483648
  · have h1 : inB a 2147483648 x = true := decide_eq_true h
    have h2 : inB ((a + 2147483648) % 4294967296) 2147483648 x = false := decide_eq_false (by omega)
    have h4 : 0 ≤ gapZ a x := by unfold gapZ; split <;> omega
    clear h
    go_enter Try.func9, Try.ntmps9
    go_wp2_with (first
      | (go_at_call 15; refine (known1_any _).mono ?_; rintro e w1 ⟨rfl, hb1⟩)
      | (go_at_call 26; refine (within_c _ _ _ _).mono ?_; rintro e w' ⟨rfl, rfl⟩)
      | (go_at_call 22; (with_reducible refine (gap_far_c _ _).mono ?_); rintro e w' ⟨rfl, rfl⟩)
      | (go_at_call 22; (with_reducible refine (gap_back_c _ _).mono ?_); rintro e w' ⟨rfl, rfl⟩)
      | (go_at_call 22; refine (gap_any _ _ _).mono ?_; rintro e w' ⟨rfl, rfl⟩))
    go_ret
    exact ⟨rfl, hb1⟩
  · have h1 : inB a 2147483648 x = false := decide_eq_false h
    have h2 : inB ((a + 2147483648) % 4294967296) 2147483648 x = true := decide_eq_true (by omega)
    have h4 : gapZ a x < 0 := by unfold gapZ; split <;> omega
    clear h
    go_enter Try.func9, Try.ntmps9
    go_wp2_with (first
      | (go_at_call 15; refine (known1_any _).mono ?_; rintro e w1 ⟨rfl, hb1⟩)
      | (go_at_call 26; refine (within_c _ _ _ _).mono ?_; rintro e w' ⟨rfl, rfl⟩)
      | (go_at_call 22; (with_reducible refine (gap_far_c _ _).mono ?_); rintro e w' ⟨rfl, rfl⟩)
      | (go_at_call 22; (with_reducible refine (gap_back_c _ _).mono ?_); rintro e w' ⟨rfl, rfl⟩)
      | (go_at_call 22; refine (gap_any _ _ _).mono ?_; rintro e w' ⟨rfl, rfl⟩))
    go_ret
    refine ⟨?_, hb1⟩
    show Ending.returned (.bool (!decide (0 ≤ gapZ a x))) = _
    rw [decide_eq_false (by omega)]; rfl
set_option maxRecDepth 100000 in
theorem lifted (os : Os) (started : os.Started) (H : Type) (enc : TypeId × Value → H) :
    ReturnsInHanded {} Try.checked os 9 .any (Rows.binHalvesSpec.pre6 enc Try.prog Try.f9 Rows.binHalvesRow.domain false) (Rows.binHalvesSpec.post enc Try.prog Try.f9 false true false false) := by
  refine returnsInHanded_of_change (C := Try.checked) own started (by kernel_rfl) Try.func9
    (ChangeSpec.witness6 (enc := enc) (C := Try.checked) false ⟨#[], #[.int .u32 0, .int .u32 0], []⟩ 8 (by kernel_rfl) (by kernel_rfl) (by kernel_rfl) (by kernel_rfl)) ?_
  intro W base args ds gs before hval0 hW hcnd _
  have hval : ∀ (j : Nat) t v, Try.f9.params[j]? = some t → args[j]? = some v → Value.okWide Try.prog W .any base t v := hval0
  have hW' := hW
  obtain ⟨p, q, hA0, hV, rfl, hfz, hnd⟩ := hW
  have hA : DataW.TrodAll enc Try.prog W 0 (fun _ => true) true Try.f9.params.toList args.toList ds p := hA0
  rw [Try.params9] at hA hval
  obtain ⟨v0, vs0, d0, ds0, p0, q0, hargs, rfl, rfl, h0, r0⟩ := trodAll_cons hA
  obtain ⟨v1, vs1, d1, ds1, p1, q1, rfl, rfl, rfl, h1, r1⟩ := trodAll_cons r0
  obtain ⟨rfl, rfl, rfl⟩ := trodAll_nil r1
  obtain rfl : args = #[v0, v1] := by cases args; simp_all
  obtain ⟨rfl, rfl⟩ := trodVars_none hV
  obtain ⟨a0, rfl, _, _, w0⟩ := open_int Try.underlying31 (hval 0 31 v0 rfl rfl) h0
  have b0 := bounds_u32 w0
  obtain ⟨a1, rfl, _, _, w1⟩ := open_int Try.underlying31 (hval 1 31 v1 rfl rfl) h1
  have b1 := bounds_u32 w1
  refine (walk a0 a1 W b0.1 b0.2 b1.1 b1.2).mono fun e W' ⟨he, hb⟩ => ?_
  subst he
  exact ⟨_, rfl, law_post laidOut (by kernel_rfl) rfl (by kernel_rfl) Try.underlying4 rfl rfl rfl hW' hb⟩

theorem proved : Rows.BinHalvesSaid :=
  OpenClaim.holds_of_wide 9 Try.f9 rfl rfl rfl rfl rfl rfl rfl ⟨rfl, rfl, rfl, rfl, rfl⟩ rfl rfl rfl rfl rfl (by kernel_rfl) Try.func9 (by kernel_rfl)
    (of_decide_eq_true (by kernel_rfl)) (by unfold Func.isWrapper; first | (rw [if_pos (by decide +kernel)]; kernel_rfl) | (rw [if_neg (by decide +kernel)]; exact ⟨rfl, rfl⟩))
    (fun os started H enc _ => lifted os started H enc)
end Halves
end Go.Proofs.Ytjibednmdnnpbaa
