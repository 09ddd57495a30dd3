/- BinOrder: for every first number and every three steps of half the circle, the statement's function tells true and turns nothing that was there. No condition. -/
import Derived.Test.YtjibednmdnnpbaaKnown1
namespace Go.Proofs.Ytjibednmdnnpbaa
open Go.ChangeShapes Go.WideShapes Go.ChangeAt Go.RowKit
set_option linter.unusedVariables false
namespace Order
/-- Whether b is ahead of a. -/
def lessB (a b : Int) : Bool := decide (0 < gapZ a b)
theorem less_c (a b : Int) (w : World) : Calls Try.prog 24 #[.int .u32 a, .int .u32 b] w fun e w' => e = .returned (.bool (lessB a b)) ∧ w = w' := less_any a b w
theorem rless_c (a b : Int) (w : World) : Calls Try.prog 25 #[.int .u32 a, .int .u32 b] w fun e w' => e = .returned (.bool (lessB a b)) ∧ w = w' := rless_any a b w
theorem less_lin (lo a b : Int) (ha : 0 ≤ a) (ha' : a ≤ 2147483647) (hb : 0 ≤ b) (hb' : b ≤ 2147483647) : lessB ((lo + a) % 4294967296) ((lo + b) % 4294967296) = decide (a < b) := by
  have h : ((lo + b) % 4294967296 - (lo + a) % 4294967296) % 4294967296 = (b - a) % 4294967296 := by omega
  unfold lessB gapZ
  rw [h, decide_eq_decide]
  split <;> omega
theorem walk (lo a b c : Int) (w : World) (h0 : 0 ≤ lo) (h0' : lo ≤ 4294967295) (ha : 0 ≤ a) (ha' : a ≤ 4294967295) (hb : 0 ≤ b) (hb' : b ≤ 4294967295) (hc : 0 ≤ c) (hc' : c ≤ 4294967295) :
    Calls Try.prog 7 #[.int .u32 lo, .int .u32 a, .int .u32 b, .int .u32 c] w fun e w' => e = .returned (.bool true) ∧ Below w.heap.size w w' := by
  have hxy := less_lin lo (a / 2) (b / 2) (by omega) (by omega) (by omega) (by omega)
  have hyx := less_lin lo (b / 2) (a / 2) (by omega) (by omega) (by omega) (by omega)
  have hyz := less_lin lo (b / 2) (c / 2) (by omega) (by omega) (by omega) (by omega)
  have hxz := less_lin lo (a / 2) (c / 2) (by omega) (by omega) (by omega) (by omega)
  by_cases h1 : a / 2 < b / 2 <;> by_cases h2 : b / 2 < c / 2
  all_goals
    first | rw [show decide (a / 2 < b / 2) = true from decide_eq_true h1] at hxy | rw [show decide (a / 2 < b / 2) = false from decide_eq_false h1] at hxy
    first | rw [show decide (b / 2 < c / 2) = true from decide_eq_true h2] at hyz | rw [show decide (b / 2 < c / 2) = false from decide_eq_false h2] at hyz
    try rw [show decide (a / 2 < c / 2) = true from decide_eq_true (by omega)] at hxz
    try rw [show decide (b / 2 < a / 2) = false from decide_eq_false (by omega)] at hyx
    go_enter Try.func7, Try.ntmps7
    go_wp2_with (first
      | (go_at_call 15; refine (known1_any _).mono ?_; rintro e w1 ⟨rfl, hb1⟩)
      | (go_at_call 24; refine (less_c _ _ _).mono ?_; rintro e w' ⟨rfl, rfl⟩)
      | (go_at_call 25; refine (rless_c _ _ _).mono ?_; rintro e w' ⟨rfl, rfl⟩))
    go_ret
    refine ⟨?_, hb1⟩
    first
      | exact rfl
      | exact ret_b (show (!decide (a / 2 < b / 2)) = true by rw [decide_eq_false (by omega)]; rfl)
set_option maxRecDepth 100000 in
theorem lifted (os : Os) (started : os.Started) (H : Type) (enc : TypeId × Value → H) :
    ReturnsInHanded {} Try.checked os 7 .any (Rows.binOrderSpec.pre6 enc Try.prog Try.f7 Rows.binOrderRow.domain false) (Rows.binOrderSpec.post enc Try.prog Try.f7 false true false false) := by
  refine returnsInHanded_of_change (C := Try.checked) own started (by kernel_rfl) Try.func7
    (ChangeSpec.witness6 (enc := enc) (C := Try.checked) false ⟨#[], #[.int .u32 0, .int .u32 0, .int .u32 0, .int .u32 0], []⟩ 8 (by kernel_rfl) (by kernel_rfl) (by kernel_rfl) (by kernel_rfl)) ?_
  intro W base args ds gs before hval0 hW hcnd _
  have hval : ∀ (j : Nat) t v, Try.f7.params[j]? = some t → args[j]? = some v → Value.okWide Try.prog W .any base t v := hval0
  have hW' := hW
  obtain ⟨p, q, hA0, hV, rfl, hfz, hnd⟩ := hW
  have hA : DataW.TrodAll enc Try.prog W 0 (fun _ => true) true Try.f7.params.toList args.toList ds p := hA0
  rw [Try.params7] at hA hval
  obtain ⟨v0, vs0, d0, ds0, p0, q0, hargs, rfl, rfl, h0, r0⟩ := trodAll_cons hA
  obtain ⟨v1, vs1, d1, ds1, p1, q1, rfl, rfl, rfl, h1, r1⟩ := trodAll_cons r0
  obtain ⟨v2, vs2, d2, ds2, p2, q2, rfl, rfl, rfl, h2, r2⟩ := trodAll_cons r1
  obtain ⟨v3, vs3, d3, ds3, p3, q3, rfl, rfl, rfl, h3, r3⟩ := trodAll_cons r2
  obtain ⟨rfl, rfl, rfl⟩ := trodAll_nil r3
  obtain rfl : args = #[v0, v1, v2, v3] := by cases args; simp_all
  obtain ⟨rfl, rfl⟩ := trodVars_none hV
  obtain ⟨a0, rfl, _, _, w0⟩ := open_int Try.underlying31 (hval 0 31 v0 rfl rfl) h0
  have b0 := bounds_u32 w0
  obtain ⟨a1, rfl, _, _, w1⟩ := open_int Try.underlying31 (hval 1 31 v1 rfl rfl) h1
  have b1 := bounds_u32 w1
  obtain ⟨a2, rfl, _, _, w2⟩ := open_int Try.underlying31 (hval 2 31 v2 rfl rfl) h2
  have b2 := bounds_u32 w2
  obtain ⟨a3, rfl, _, _, w3⟩ := open_int Try.underlying31 (hval 3 31 v3 rfl rfl) h3
  have b3 := bounds_u32 w3
  refine (walk a0 a1 a2 a3 W b0.1 b0.2 b1.1 b1.2 b2.1 b2.2 b3.1 b3.2).mono fun e W' ⟨he, hb⟩ => ?_
  subst he
  exact ⟨_, rfl, law_post laidOut (by kernel_rfl) rfl (by kernel_rfl) Try.underlying4 rfl rfl rfl hW' hb⟩

theorem proved : Rows.BinOrderSaid :=
  OpenClaim.holds_of_wide 7 Try.f7 rfl rfl rfl rfl rfl rfl rfl ⟨rfl, rfl, rfl, rfl, rfl⟩ rfl rfl rfl rfl rfl (by kernel_rfl) Try.func7 (by kernel_rfl)
    (of_decide_eq_true (by kernel_rfl)) (by unfold Func.isWrapper; first | (rw [if_pos (by decide +kernel)]; kernel_rfl) | (rw [if_neg (by decide +kernel)]; exact ⟨rfl, rfl⟩))
    (fun os started H enc _ => lifted os started H enc)
end Order
end Go.Proofs.Ytjibednmdnnpbaa
