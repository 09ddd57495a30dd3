/- TaskFull: for all numbers the statement's function tells true and turns nothing that was there. No condition. -/
import Derived.Test.YtgofkofkhkpjbaaTk8
namespace Go.Proofs.Ytgofkofkhkpjbaa
open Go.ChangeShapes Go.WideShapes Go.ChangeAt Go.RowKit Go.Lib
set_option linter.unusedVariables false
set_option linter.unusedSimpArgs false
theorem own : ownKnob Try.prog.godebug = none := by kernel_rfl
theorem laidOut : laidOutB Try.prog = true := by kernel_rfl
namespace Tk
theorem u32_small (k : Nat) (hk : k ≤ 100) : IntKind.u32.wrap (k : Int) = (k : Int) := by
  rw [IntKind.wrap_u32]
  omega
set_option maxRecDepth 100000 in
set_option maxHeartbeats 4000000 in
theorem walk (a0 a1 : Int) (w : World) (b0 : -9223372036854775808 ≤ a0) (b1 : a0 ≤ 9223372036854775807) (b2 : -9223372036854775808 ≤ a1) (b3 : a1 ≤ 9223372036854775807) : Calls Try.prog 3 #[.int .i64 a0, .int .i64 a1] w fun e w' => e = .returned (.bool true) ∧ Below w.heap.size w w' := by
  by_cases hb : a0 < 1 ∨ 100 < a0 ∨ a1 < 0 ∨ a0 ≤ a1
  · by_cases q1 : a0 < 1
    · clear hb b0 b1 b2 b3
      go_enter Try.func3, Try.ntmps3
      go_wp2_with (go_at_call 4; refine (known_any _).mono ?_; rintro e w1 ⟨rfl, hb1⟩)
      go_ret
      exact ⟨rfl, hb1⟩
    by_cases q2 : 100 < a0
    · clear hb b0 b1 b2 b3
      go_enter Try.func3, Try.ntmps3
      go_wp2_with (go_at_call 4; refine (known_any _).mono ?_; rintro e w1 ⟨rfl, hb1⟩)
      go_ret
      exact ⟨rfl, hb1⟩
    by_cases q3 : a1 < 0
    · clear hb b0 b1 b2 b3
      go_enter Try.func3, Try.ntmps3
      go_wp2_with (go_at_call 4; refine (known_any _).mono ?_; rintro e w1 ⟨rfl, hb1⟩)
      go_ret
      exact ⟨rfl, hb1⟩
    have q4 : a0 ≤ a1 := by omega
    clear hb b0 b1 b2 b3
    go_enter Try.func3, Try.ntmps3
    go_wp2_with (go_at_call 4; refine (known_any _).mono ?_; rintro e w1 ⟨rfl, hb1⟩)
    go_ret
    exact ⟨rfl, hb1⟩
  · obtain ⟨m, rfl⟩ : ∃ m : Nat, a0 = (m : Nat) := ⟨a0.toNat, by omega⟩
    obtain ⟨d, rfl⟩ : ∃ d : Nat, a1 = (d : Nat) := ⟨a1.toNat, by omega⟩
    have h1 : 1 ≤ m := by omega
    have h2 : m ≤ 100 := by omega
    have h3 : d < m := by omega
    have x1 : ¬ (m : Int) < 1 := by omega
    have x2 : ¬ 100 < (m : Int) := by omega
    have x3 : ¬ (d : Int) < 0 := by omega
    have x4 : ¬ (m : Int) ≤ (d : Int) := by omega
    clear hb b0 b1 b2 b3
    have cN : ∀ W, Below w.heap.size w W → Calls Try.prog 5 #[.int .i64 (m : Nat)] W fun e w' => ∃ X, e = .returned (.tuple #[.pointer (some ⟨X, 0, none⟩), .int .i64 0]) ∧ Tsk w w' X m [] := fun W hW => t_new m h1 (by omega) hW
    have cP : ∀ X W k, k < m → Tsk w W X m (rowN k) → Calls Try.prog 6 #[.pointer (some ⟨X, 0, none⟩), .int .u32 (k : Nat), .int .i64 0] W fun e w' => e = .returned (.int .i64 0) ∧ Tsk w w' X m (rowN (k + 1)) := fun X W k hk h => t_put h k 0 (.inl rfl) (rowN_none k k (Nat.le_refl _)) (by rw [rowN_len]; exact hk) (by omega) (rowN_ins k)
    have cF : ∀ X W, Tsk w W X m (rowN m) → Calls Try.prog 6 #[.pointer (some ⟨X, 0, none⟩), .int .u32 1000, .int .i64 0] W fun e w' => e = .returned (.int .i64 7) ∧ Tsk w w' X m (rowN m) := fun X W h => t_full h 1000 0 (.inl rfl) (rowN_none m 1000 (by omega)) (by rw [rowN_len]; exact Nat.le_refl _)
    have cU : ∀ X W, Tsk w W X m (rowN m) → Calls Try.prog 6 #[.pointer (some ⟨X, 0, none⟩), .int .u32 0, .int .i64 0] W fun e w' => e = .returned (.int .i64 1) ∧ Tsk w w' X m (rowN m) := fun X W h => t_dup h 0 0 (.inl rfl) 0 (rowN_some m 0 (by omega))
    have cE : ∀ X W, Tsk w W X m (rowN m) → Calls Try.prog 7 #[.pointer (some ⟨X, 0, none⟩)] W fun e w' => ∃ A c, e = .returned (.slice A m c) ∧ Tsk w w' X m (rowN m) := fun X W h => (t_enabled h _ rfl).mono fun e w' ⟨A, c, e1, _, e2, _⟩ => ⟨A, c, by rw [e1]; have := sim_en (R := []) (rowN_sim m) (rowN_st m) (rowN m).length (Nat.le_refl _); rw [List.append_nil] at this; rw [this, rowN_len], e2⟩
    have cS : ∀ X W, Tsk w W X m (rowN m) → Calls Try.prog 8 #[.pointer (some ⟨X, 0, none⟩), .int .u32 (d : Nat)] W fun e w' => e = .returned (.int .i64 0) ∧ Tsk w w' X m (rowS m d) := fun X W h => t_start h d d (rowN_some m d h3) (by rw [rowN_len]; exact h3) (by
      have hd : d < (rowN m).length := by rw [rowN_len]; exact h3
      have := en_mem (rowN_sim m) (rowN m).length d (Nat.le_refl _) hd (by rw [rowN_get])
      rwa [rowN_get] at this) (by rw [rowN_get]; rfl)
    have cG : ∀ X W, Tsk w W X m (rowS m d) → Calls Try.prog 6 #[.pointer (some ⟨X, 0, none⟩), .int .u32 1000, .int .i64 2] W fun e w' => e = .returned (.int .i64 7) ∧ Tsk w w' X m (rowS m d) := fun X W h => t_full h 1000 2 (.inr (.inr rfl)) (rowS_none m d 1000 (by omega) h3) (by rw [rowS_len]; exact Nat.le_refl _)
    have cD : ∀ X W, Tsk w W X m (rowS m d) → Calls Try.prog 9 #[.pointer (some ⟨X, 0, none⟩), .int .u32 (d : Nat)] W fun e w' => e = .returned (.int .i64 0) ∧ Tsk w w' X m (rowD m d) := fun X W h => t_done h d d (rowS_some m d h3) (by rw [rowS_len]; exact h3) (by unfold rowS; rw [List.getElem_set_self]) (rowS_erase m d)
    have cO : ∀ X W, Tsk w W X m (rowD m d) → Calls Try.prog 6 #[.pointer (some ⟨X, 0, none⟩), .int .u32 1000, .int .i64 1] W fun e w' => e = .returned (.int .i64 0) ∧ Tsk w w' X m (rowD m d ++ [⟨1000, 1, false⟩]) := fun X W h => t_put h 1000 1 (.inr (.inl rfl)) (rowD_none m d 1000 (by omega)) (by rw [rowD_len m d h3]; omega) (by omega) (by rw [show atOf (rowD m d) 1 = (rowD m d).length from rfl, ins_end])
    have cL : ∀ X W, Tsk w W X m (rowD m d ++ [⟨1000, 1, false⟩]) → Calls Try.prog 10 #[.pointer (some ⟨X, 0, none⟩)] W fun e w' => e = .returned (.int .i64 (m : Nat)) ∧ W = w' := fun X W h => (t_len h).mono fun e w' ⟨e1, e2⟩ => ⟨by rw [e1, List.length_append, rowD_len m d h3]; show Ending.returned (.int .i64 ((m - 1 + 1 : Nat) : Int)) = _; rw [show m - 1 + 1 = m by omega], e2⟩
    have cH : ∀ X W, Tsk w W X m (rowD m d ++ [⟨1000, 1, false⟩]) → Calls Try.prog 7 #[.pointer (some ⟨X, 0, none⟩)] W fun e w' => ∃ A c, e = .returned (.slice A (m - 1 + (if m = 1 then 1 else 0)) c) ∧ Tsk w w' X m (rowD m d ++ [⟨1000, 1, false⟩]) := fun X W h => (t_enabled h _ rfl).mono fun e w' ⟨A, c, e1, _, e2, _⟩ => ⟨A, c, by rw [e1, rowD_en m d h3], e2⟩
    have cI : ∀ W, Calls Try.prog 11 #[.int .i64 (m : Nat)] W fun e w' => e = .returned (.int .i64 (if m = 1 then 1 else 0)) ∧ W = w' := fun W => one_any m W
    have hlast : (((m - 1 + (if m = 1 then 1 else 0) : Nat) : Int)) = (m : Int) - 1 + (if m = 1 then 1 else 0) := by split <;> omega
    obtain ⟨q, hq⟩ : ∃ q : Nat, (if m = 1 then 1 else 0) = q := ⟨_, rfl⟩
    have hq2 : (if m = 1 then (1 : Int) else 0) = (q : Nat) := by rw [← hq]; split <;> rfl
    rw [hq] at cH hlast
    rw [hq2] at cI hlast
    have hq3 : q ≤ 1 := by rw [← hq]; split <;> omega
    obtain ⟨z, hz⟩ : ∃ z, m - 1 + q = z := ⟨_, rfl⟩
    rw [hz] at cH hlast
    have hz100 : (z : Int) ≤ 101 := by omega
    replace hlast : (m : Int) - 1 + (q : Nat) = (z : Nat) := hlast.symm
    clear hq hq2 hq3 hz
    have cu : ∀ k : Nat, k ≤ 100 → IntKind.u32.wrap (k : Int) = (k : Int) := u32_small
    have cud := cu d (by omega)
    go_enter Try.func3, Try.ntmps3
    go_wp2_with (first
      | (go_at_call 4; refine (known_any _).mono ?_; rintro e w1 ⟨rfl, hb1⟩)
      | (go_at_call 5; (with_reducible refine (cN _ hb1).mono ?_); rintro e w2 ⟨X, rfl, h4⟩))
    go_loopw [7] (fun s7 wr => ∃ k : Nat, k ≤ m ∧ s7 = .int .i64 (k : Nat) ∧ Tsk w wr X m (rowN k)) (fun s7 _ => m - (intOf s7).toNat)
    case atStart => exact ⟨0, Nat.zero_le _, rfl, h4⟩
    case round =>
      obtain ⟨k, hk, rfl, h5⟩ := hrel
      by_cases hkm : k < m
      · have hkx : (k : Int) < (m : Int) := by omega
        have cuk := cu k (by omega)
        clear cu cud
        go_wp2_with (go_at_call 6; (with_reducible refine (cP _ _ k hkm h5).mono ?_); rintro e w6 ⟨rfl, h6⟩)
        exact ⟨⟨k + 1, hkm, by go_num, h6⟩, by simp [intOf]; omega⟩
      · obtain rfl : k = m := by omega
        clear cu cP
        go_wp2_with (first
          | (go_at_call 6; (with_reducible refine (cF _ _ h5).mono ?_); rintro e w6 ⟨rfl, h6⟩)
          | (go_at_call 6; (with_reducible refine (cU _ _ h6).mono ?_); rintro e w7 ⟨rfl, h7⟩)
          | (go_at_call 7; (with_reducible refine (cE _ _ h7).mono ?_); rintro e w8 ⟨A8, c8, rfl, h8⟩)
          | (go_at_call 8; (with_reducible refine (cS _ _ h8).mono ?_); rintro e w9 ⟨rfl, h9⟩)
          | (go_at_call 6; (with_reducible refine (cG _ _ h9).mono ?_); rintro e wa ⟨rfl, ha⟩)
          | (go_at_call 9; (with_reducible refine (cD _ _ ha).mono ?_); rintro e wb ⟨rfl, hb⟩)
          | (go_at_call 6; (with_reducible refine (cO _ _ hb).mono ?_); rintro e wc ⟨rfl, hc⟩)
          | (go_at_call 10; (with_reducible refine (cL _ _ hc).mono ?_); rintro e wd ⟨rfl, rfl⟩)
          | (go_at_call 7; (with_reducible refine (cH _ _ hc).mono ?_); rintro e we ⟨A9, c9, rfl, he⟩)
          | (go_at_call 11; (with_reducible refine (cI _).mono ?_); rintro e wf ⟨rfl, rfl⟩))
        go_ret
        exact ⟨rfl, he.bl⟩
set_option maxRecDepth 100000 in
theorem lifted (os : Os) (started : os.Started) (H : Type) (enc : TypeId × Value → H) :
    ReturnsInHanded {} Try.checked os 3 .any (Rows.taskFullSpec.pre6 enc Try.prog Try.f3 Rows.taskFullRow.domain false) (Rows.taskFullSpec.post enc Try.prog Try.f3 false true false false) := by
  refine returnsInHanded_of_change (C := Try.checked) own started (by kernel_rfl) Try.func3
    (ChangeSpec.witness6 (enc := enc) (C := Try.checked) false ⟨#[], #[.int .i64 0, .int .i64 0], []⟩ 8 (by kernel_rfl) (by kernel_rfl) (by kernel_rfl) (by kernel_rfl)) ?_
  intro W base args ds gs before hval0 hW hcnd _
  have hval : ∀ (j : Nat) t v, Try.f3.params[j]? = some t → args[j]? = some v → Value.okWide Try.prog W .any base t v := hval0
  have hW' := hW
  obtain ⟨p, q, hA0, hV, rfl, hfz, hnd⟩ := hW
  have hA : DataW.TrodAll enc Try.prog W 0 (fun _ => true) true Try.f3.params.toList args.toList ds p := hA0
  rw [Try.params3] at hA hval
  obtain ⟨v0, vs0, d0, ds0, p0, q0, hargs, rfl, rfl, h0, r0⟩ := trodAll_cons hA
  obtain ⟨v1, vs1, d1, ds1, p1, q1, rfl, rfl, rfl, h1, r1⟩ := trodAll_cons r0
  obtain ⟨rfl, rfl, rfl⟩ := trodAll_nil r1
  obtain rfl : args = #[v0, v1] := by cases args; simp_all
  obtain ⟨rfl, rfl⟩ := trodVars_none hV
  obtain ⟨a0, rfl, _, _, w0⟩ := open_int Try.underlying3 (hval 0 3 v0 rfl rfl) h0
  have b0 := bounds_i64 w0
  obtain ⟨a1, rfl, _, _, w1⟩ := open_int Try.underlying3 (hval 1 3 v1 rfl rfl) h1
  have b1 := bounds_i64 w1
  refine (walk a0 a1 W b0.1 b0.2 b1.1 b1.2).mono fun e W' ⟨he, hb⟩ => ?_
  subst he
  exact ⟨_, rfl, law_post laidOut (by kernel_rfl) rfl (by kernel_rfl) Try.underlying4 rfl rfl rfl hW' hb⟩

theorem proved : Rows.TaskFullSaid :=
  OpenClaim.holds_of_wide 3 Try.f3 rfl rfl rfl rfl rfl rfl rfl ⟨rfl, rfl, rfl, rfl, rfl⟩ rfl rfl rfl rfl rfl (by kernel_rfl) Try.func3 (by kernel_rfl)
    (of_decide_eq_true (by kernel_rfl)) (by unfold Func.isWrapper; first | (rw [if_pos (by decide +kernel)]; kernel_rfl) | (rw [if_neg (by decide +kernel)]; exact ⟨rfl, rfl⟩))
    (fun os started H enc _ => lifted os started H enc)
end Tk
end Go.Proofs.Ytgofkofkhkpjbaa
