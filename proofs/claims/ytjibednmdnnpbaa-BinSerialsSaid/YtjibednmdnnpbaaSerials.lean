/- BinSerials: for every two numbers, window and step, the statement's function tells true and turns nothing that was there. No condition. -/
import Derived.Test.YtjibednmdnnpbaaKnown1
namespace Go.Proofs.Ytjibednmdnnpbaa
open Go.ChangeShapes Go.WideShapes Go.ChangeAt Go.RowKit
set_option linter.unusedVariables false

namespace Serials
theorem gap_shift (a b d : Int) : gapZ ((a + d) % 4294967296) ((b + d) % 4294967296) = gapZ a b := by
  have h : ((b + d) % 4294967296 - (a + d) % 4294967296) % 4294967296 = (b - a) % 4294967296 := by omega
  unfold gapZ; rw [h]
theorem gap_sh (a b d : Int) (w : World) : Calls Try.prog 22 #[.int .u32 ((a + d) % 4294967296), .int .u32 ((b + d) % 4294967296)] w fun e w' => e = .returned (.int .i64 (gapZ a b)) ∧ w = w' := by
  have h := gap_any ((a + d) % 4294967296) ((b + d) % 4294967296) w
  rw [gap_shift] at h; exact h
theorem within_sh (a n b d : Int) (w : World) : Calls Try.prog 26 #[.int .u32 ((a + d) % 4294967296), .int .u32 n, .int .u32 ((b + d) % 4294967296)] w fun e w' => e = .returned (.bool (decide ((b - a) % 4294967296 < n))) ∧ w = w' := by
  have h := within_any ((a + d) % 4294967296) n ((b + d) % 4294967296) w
  rw [show ((b + d) % 4294967296 - (a + d) % 4294967296) % 4294967296 = (b - a) % 4294967296 by omega] at h; exact h
theorem less_self (a : Int) (w : World) : Calls Try.prog 24 #[.int .u32 a, .int .u32 a] w fun e w' => e = .returned (.bool false) ∧ w = w' := by
  have h := less_any a a w
  rw [show decide (0 < gapZ a a) = false by simp [gapZ]] at h; exact h
theorem gap_bd (a b : Int) : -2147483648 ≤ gapZ a b ∧ gapZ a b ≤ 2147483647 := by unfold gapZ; split <;> omega
theorem gap_neg (a b : Int) (h : ¬ (a - b) % 4294967296 = 2147483648) : gapZ b a = 0 - gapZ a b := by unfold gapZ; split <;> split <;> omega

theorem walk (a b n d : Int) (w : World) (ha : 0 ≤ a) (ha' : a ≤ 4294967295) (hb : 0 ≤ b) (hb' : b ≤ 4294967295) (hn : 0 ≤ n) (hn' : n ≤ 4294967295) (hd : 0 ≤ d) (hd' : d ≤ 4294967295) :
    Calls Try.prog 4 #[.int .u32 a, .int .u32 b, .int .u32 n, .int .u32 d] w fun e w' => e = .returned (.bool true) ∧ Below w.heap.size w w' := by
  have hg := gap_bd a b
  by_cases hc : (a - b) % 4294967296 = 2147483648
  · have hcb : ((a - b) % 4294967296 == 2147483648) = true := by rw [beq_iff_eq]; exact hc
    clear hc
    go_enter Try.func4, Try.ntmps4
    go_wp2_with (first
      | (go_at_call 15; refine (known1_any _).mono ?_; rintro e w1 ⟨rfl, hb1⟩)
      | (go_at_call 22; (with_reducible refine (gap_sh _ _ _ _).mono ?_); rintro e w' ⟨rfl, rfl⟩)
      | (go_at_call 22; refine (gap_any _ _ _).mono ?_; rintro e w' ⟨rfl, rfl⟩)
      | (go_at_call 23; refine (rgap_any _ _ _).mono ?_; rintro e w' ⟨rfl, rfl⟩)
      | (go_at_call 24; (with_reducible refine (less_self _ _).mono ?_); rintro e w' ⟨rfl, rfl⟩)
      | (go_at_call 24; refine (less_any _ _ _).mono ?_; rintro e w' ⟨rfl, rfl⟩)
      | (go_at_call 25; refine (rless_any _ _ _).mono ?_; rintro e w' ⟨rfl, rfl⟩)
      | (go_at_call 26; (with_reducible refine (within_sh _ _ _ _ _).mono ?_); rintro e w' ⟨rfl, rfl⟩)
      | (go_at_call 26; refine (within_any _ _ _ _).mono ?_; rintro e w' ⟨rfl, rfl⟩)
      | (go_at_call 27; refine (rwithin_any _ _ _ _).mono ?_; rintro e w' ⟨rfl, rfl⟩))
    go_ret
    exact ⟨rfl, hb1⟩
  · have hcb : ((a - b) % 4294967296 == 2147483648) = false := by rw [beq_eq_false_iff_ne]; exact hc
    have he : (gapZ b a == -gapZ a b) = true := by rw [beq_iff_eq, gap_neg a b hc]; omega
    clear hc
    go_enter Try.func4, Try.ntmps4
    go_wp2_with (first
      | (go_at_call 15; refine (known1_any _).mono ?_; rintro e w1 ⟨rfl, hb1⟩)
      | (go_at_call 22; (with_reducible refine (gap_sh _ _ _ _).mono ?_); rintro e w' ⟨rfl, rfl⟩)
      | (go_at_call 22; refine (gap_any _ _ _).mono ?_; rintro e w' ⟨rfl, rfl⟩)
      | (go_at_call 23; refine (rgap_any _ _ _).mono ?_; rintro e w' ⟨rfl, rfl⟩)
      | (go_at_call 24; (with_reducible refine (less_self _ _).mono ?_); rintro e w' ⟨rfl, rfl⟩)
      | (go_at_call 24; refine (less_any _ _ _).mono ?_; rintro e w' ⟨rfl, rfl⟩)
      | (go_at_call 25; refine (rless_any _ _ _).mono ?_; rintro e w' ⟨rfl, rfl⟩)
      | (go_at_call 26; (with_reducible refine (within_sh _ _ _ _ _).mono ?_); rintro e w' ⟨rfl, rfl⟩)
      | (go_at_call 26; refine (within_any _ _ _ _).mono ?_; rintro e w' ⟨rfl, rfl⟩)
      | (go_at_call 27; refine (rwithin_any _ _ _ _).mono ?_; rintro e w' ⟨rfl, rfl⟩))
    go_ret
    exact ⟨rfl, hb1⟩

set_option maxRecDepth 100000 in
theorem lifted (os : Os) (started : os.Started) (H : Type) (enc : TypeId × Value → H) :
    ReturnsInHanded {} Try.checked os 4 .any (Rows.binSerialsSpec.pre6 enc Try.prog Try.f4 Rows.binSerialsRow.domain false) (Rows.binSerialsSpec.post enc Try.prog Try.f4 false true false false) := by
  refine returnsInHanded_of_change (C := Try.checked) own started (by kernel_rfl) Try.func4
    (ChangeSpec.witness6 (enc := enc) (C := Try.checked) false ⟨#[], #[.int .u32 0, .int .u32 0, .int .u32 0, .int .u32 0], []⟩ 8 (by kernel_rfl) (by kernel_rfl) (by kernel_rfl) (by kernel_rfl)) ?_
  intro W base args ds gs before hval0 hW hcnd _
  have hval : ∀ (j : Nat) t v, Try.f4.params[j]? = some t → args[j]? = some v → Value.okWide Try.prog W .any base t v := hval0
  have hW' := hW
  obtain ⟨p, q, hA0, hV, rfl, hfz, hnd⟩ := hW
  have hA : DataW.TrodAll enc Try.prog W 0 (fun _ => true) true Try.f4.params.toList args.toList ds p := hA0
  rw [Try.params4] at hA hval
  obtain ⟨v0, vs0, d0, ds0, p0, q0, hargs, rfl, rfl, h0, r0⟩ := trodAll_cons hA
  obtain ⟨v1, vs1, d1, ds1, p1, q1, rfl, rfl, rfl, h1, r1⟩ := trodAll_cons r0
  obtain ⟨v2, vs2, d2, ds2, p2, q2, rfl, rfl, rfl, h2, r2⟩ := trodAll_cons r1
  obtain ⟨v3, vs3, d3, ds3, p3, q3, rfl, rfl, rfl, h3, r3⟩ := trodAll_cons r2
  obtain ⟨rfl, rfl, rfl⟩ := trodAll_nil r3
  obtain rfl : args = #[v0, v1, v2, v3] := by cases args; simp_all
  obtain ⟨rfl, rfl⟩ := trodVars_none hV
  obtain ⟨a0, rfl, rfl, rfl, w0⟩ := open_int Try.underlying31 (hval 0 31 v0 rfl rfl) h0
  obtain ⟨a1, rfl, rfl, rfl, w1⟩ := open_int Try.underlying31 (hval 1 31 v1 rfl rfl) h1
  obtain ⟨a2, rfl, rfl, rfl, w2⟩ := open_int Try.underlying31 (hval 2 31 v2 rfl rfl) h2
  obtain ⟨a3, rfl, rfl, rfl, w3⟩ := open_int Try.underlying31 (hval 3 31 v3 rfl rfl) h3
  have b0 := bounds_u32 w0; have b1 := bounds_u32 w1; have b2 := bounds_u32 w2; have b3 := bounds_u32 w3
  refine (walk a0 a1 a2 a3 W (by omega) (by omega) (by omega) (by omega) (by omega) (by omega) (by omega) (by omega)).mono fun e W' ⟨he, hb⟩ => ?_
  subst he
  exact ⟨_, rfl, law_post laidOut (by kernel_rfl) rfl (by kernel_rfl) Try.underlying4 rfl rfl rfl hW' hb⟩

theorem proved : Rows.BinSerialsSaid :=
  OpenClaim.holds_of_wide 4 Try.f4 rfl rfl rfl rfl rfl rfl rfl ⟨rfl, rfl, rfl, rfl, rfl⟩ rfl rfl rfl rfl rfl (by kernel_rfl) Try.func4 (by kernel_rfl)
    (of_decide_eq_true (by kernel_rfl)) (by unfold Func.isWrapper; first | (rw [if_pos (by decide +kernel)]; kernel_rfl) | (rw [if_neg (by decide +kernel)]; exact ⟨rfl, rfl⟩))
    (fun os started H enc _ => lifted os started H enc)
end Serials
end Go.Proofs.Ytjibednmdnnpbaa
