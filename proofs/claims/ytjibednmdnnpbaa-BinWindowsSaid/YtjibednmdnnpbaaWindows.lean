/- BinWindows: for every first number, every small number and every step the statement's function tells true and turns nothing that was there. No condition. -/
import Derived.Test.YtjibednmdnnpbaaKnown1
namespace Go.Proofs.Ytjibednmdnnpbaa
open Go.ChangeShapes Go.WideShapes Go.ChangeAt Go.RowKit
set_option linter.unusedVariables false
namespace Windows
theorem in_lin (lo n k : Int) (h0 : 0 ≤ k) (h1 : k ≤ 4294967295) : ((lo + k) % 4294967296 - lo) % 4294967296 = k := by omega
theorem within_c (lo n k : Int) (w : World) (h0 : 0 ≤ k) (h1 : k ≤ 4294967295) : Calls Try.prog 26 #[.int .u32 lo, .int .u32 n, .int .u32 ((lo + k) % 4294967296)] w fun e w' => e = .returned (.bool (decide (k < n))) ∧ w = w' := by
  have h := within_any lo n ((lo + k) % 4294967296) w; rw [in_lin lo n k h0 h1] at h; exact h
theorem within_none (lo x : Int) (w : World) : Calls Try.prog 26 #[.int .u32 lo, .int .u32 0, .int .u32 x] w fun e w' => e = .returned (.bool false) ∧ w = w' := by
  have h := within_any lo 0 x w; rw [show decide ((x - lo) % 4294967296 < 0) = false from decide_eq_false (by omega)] at h; exact h
set_option maxRecDepth 100000 in
theorem walk (lo n far : Int) (w : World) (h0 : 0 ≤ lo) (h0' : lo ≤ 4294967295) (hn : 0 ≤ n) (hn' : n ≤ 255) (hf : 0 ≤ far) (hf' : far ≤ 4294967295) :
    Calls Try.prog 5 #[.int .u32 lo, .int .u8 n, .int .u32 far] w fun e w' => e = .returned (.bool true) ∧ Below w.heap.size w w' := by
  go_enter Try.func5, Try.ntmps5
  go_wp2_with (go_at_call 15; refine (known1_any _).mono ?_; rintro e w1 ⟨rfl, hb1⟩)
  go_loop [7] (fun i => ∃ k : Nat, k ≤ 300 ∧ i = .int .u32 k) (fun i => 300 - (intOf i).toNat)
  case atStart => exact ⟨0, by omega, rfl⟩
  case round =>
    obtain ⟨k, hk, rfl⟩ := hrel
    by_cases hlt : k < 300
    · go_wp2_with (go_at_call 26; (with_reducible refine (within_c _ _ _ _ ?_ ?_).mono ?_) <;> first | omega | skip; rintro e w' ⟨rfl, rfl⟩)
      go_round
      case rel => exact ⟨k + 1, by omega, by go_num⟩
      case measure => simp [intOf]; omega
    · go_wp2_with (first
        | (go_at_call 26; (with_reducible refine (within_none _ _ _).mono ?_); rintro e w' ⟨rfl, rfl⟩)
        | (go_at_call 26; (with_reducible refine (within_c _ _ _ _ (by omega) (by omega)).mono ?_); rintro e w' ⟨rfl, rfl⟩))
      go_ret
      exact ⟨rfl, hb1⟩
set_option maxRecDepth 100000 in
theorem lifted (os : Os) (started : os.Started) (H : Type) (enc : TypeId × Value → H) :
    ReturnsInHanded {} Try.checked os 5 .any (Rows.binWindowsSpec.pre6 enc Try.prog Try.f5 Rows.binWindowsRow.domain false) (Rows.binWindowsSpec.post enc Try.prog Try.f5 false true false false) := by
  refine returnsInHanded_of_change (C := Try.checked) own started (by kernel_rfl) Try.func5
    (ChangeSpec.witness6 (enc := enc) (C := Try.checked) false ⟨#[], #[.int .u32 0, .int .u8 0, .int .u32 0], []⟩ 8 (by kernel_rfl) (by kernel_rfl) (by kernel_rfl) (by kernel_rfl)) ?_
  intro W base args ds gs before hval0 hW hcnd _
  have hval : ∀ (j : Nat) t v, Try.f5.params[j]? = some t → args[j]? = some v → Value.okWide Try.prog W .any base t v := hval0
  have hW' := hW
  obtain ⟨p, q, hA0, hV, rfl, hfz, hnd⟩ := hW
  have hA : DataW.TrodAll enc Try.prog W 0 (fun _ => true) true Try.f5.params.toList args.toList ds p := hA0
  rw [Try.params5] at hA hval
  obtain ⟨v0, vs0, d0, ds0, p0, q0, hargs, rfl, rfl, h0, r0⟩ := trodAll_cons hA
  obtain ⟨v1, vs1, d1, ds1, p1, q1, rfl, rfl, rfl, h1, r1⟩ := trodAll_cons r0
  obtain ⟨v2, vs2, d2, ds2, p2, q2, rfl, rfl, rfl, h2, r2⟩ := trodAll_cons r1
  obtain ⟨rfl, rfl, rfl⟩ := trodAll_nil r2
  obtain rfl : args = #[v0, v1, v2] := by cases args; simp_all
  obtain ⟨rfl, rfl⟩ := trodVars_none hV
  obtain ⟨a0, rfl, _, _, w0⟩ := open_int Try.underlying31 (hval 0 31 v0 rfl rfl) h0
  have b0 := bounds_u32 w0
  obtain ⟨a1, rfl, _, _, w1⟩ := open_int Try.underlying5 (hval 1 5 v1 rfl rfl) h1
  have b1 := bounds_u8 w1
  obtain ⟨a2, rfl, _, _, w2⟩ := open_int Try.underlying31 (hval 2 31 v2 rfl rfl) h2
  have b2 := bounds_u32 w2
  refine (walk a0 a1 a2 W b0.1 b0.2 b1.1 b1.2 b2.1 b2.2).mono fun e W' ⟨he, hb⟩ => ?_
  subst he
  exact ⟨_, rfl, law_post laidOut (by kernel_rfl) rfl (by kernel_rfl) Try.underlying4 rfl rfl rfl hW' hb⟩

theorem proved : Rows.BinWindowsSaid :=
  OpenClaim.holds_of_wide 5 Try.f5 rfl rfl rfl rfl rfl rfl rfl ⟨rfl, rfl, rfl, rfl, rfl⟩ rfl rfl rfl rfl rfl (by kernel_rfl) Try.func5 (by kernel_rfl)
    (of_decide_eq_true (by kernel_rfl)) (by unfold Func.isWrapper; first | (rw [if_pos (by decide +kernel)]; kernel_rfl) | (rw [if_neg (by decide +kernel)]; exact ⟨rfl, rfl⟩))
    (fun os started H enc _ => lifted os started H enc)
end Windows
end Go.Proofs.Ytjibednmdnnpbaa
