/- NetFull: for every number the statement's function tells true and turns nothing that was there. No condition. -/
import Derived.Test.YtmlimmcaidkoeaaNt9
import Derived.LoopTactic
namespace Go.Proofs.Ytmlimmcaidkoeaa
open Go.ChangeShapes Go.WideShapes Go.ChangeAt Go.RowKit Go.Lib
set_option linter.unusedVariables false
theorem own : ownKnob Try.prog.godebug = none := by kernel_rfl
theorem laidOut : laidOutB Try.prog = true := by kernel_rfl
namespace Full
set_option maxRecDepth 100000 in
set_option maxHeartbeats 4000000 in
theorem walk (n : Int) (w : World) (h1 : -9223372036854775808 ≤ n) (h2 : n ≤ 9223372036854775807) :
    Calls Try.prog 5 #[.int .i64 n] w fun e w' => e = .returned (.bool true) ∧ Below w.heap.size w w' := by
  by_cases hr : n < 4090 ∨ 4100 < n
  · by_cases h3 : n < 4090
    · go_enter Try.func5, Try.ntmps5
      go_wp2_with (go_at_call 9; refine (known_any _).mono ?_; rintro e w1 ⟨rfl, hb1⟩)
      go_ret
      exact ⟨rfl, hb1⟩
    · have h4 : 4100 < n := by omega
      go_enter Try.func5, Try.ntmps5
      go_wp2_with (go_at_call 9; refine (known_any _).mono ?_; rintro e w1 ⟨rfl, hb1⟩)
      go_ret
      exact ⟨rfl, hb1⟩
  · obtain ⟨N, rfl⟩ : ∃ N : Nat, n = N := ⟨n.toNat, by omega⟩
    have h3 : 4090 ≤ N := by omega
    have h4 : N ≤ 4100 := by omega
    have g3 : ¬ (N : Int) < 4090 := by omega
    have g4 : ¬ 4100 < (N : Int) := by omega
    clear hr h1 h2
    have hnew : ∀ W, Below w.heap.size w W → Calls Try.prog 11 #[.int .i64 1] W fun e w' => e = .returned (.tuple #[.pointer (some ⟨W.heap.size, 0, none⟩), .int .i64 0]) ∧ NetGo w w' W.heap.size 1 [] 0 := fun W hW => new_go w 1 (by omega) (by omega) W hW
    have hsok : ∀ W X (L : List Pk), L.length < 4096 → NetGo w W X 1 L L.length → Calls Try.prog 20 #[.pointer (some ⟨X, 0, none⟩), .int .i64 0, .int .i64 0, .slice none 0 0] W fun e w' => ∃ p, e = .returned (.int .i64 0) ∧ NetGo w w' X 1 (L ++ [p]) (L ++ [p]).length := by
      intro W X L hL hg
      refine (send_go hg (Below.refl _ _) (fr := 0) (to := 0) (by omega) (by omega) (by omega) (by omega) (l := []) (by simp) hL (by omega) Sl.nil_).mono ?_
      rintro e w' ⟨d', rfl, h, _⟩
      exact ⟨_, rfl, by rw [List.length_append]; exact h⟩
    have hsno : ∀ W X (L : List Pk), ¬ L.length < 4096 → NetGo w W X 1 L L.length → Calls Try.prog 20 #[.pointer (some ⟨X, 0, none⟩), .int .i64 0, .int .i64 0, .slice none 0 0] W fun e w' => e = .returned (.int .i64 7) ∧ W = w' := by
      intro W X L hL hg
      have e7 : sendC 1 L.length 0 0 0 = 7 := by unfold sendC; rw [if_neg (by omega), if_neg (by omega), if_pos (by omega)]
      have := sendno_go hg (fr := 0) (to := 0) (l := []) (by show sendC 1 L.length 0 0 0 ≠ 0; rw [e7]; decide) Sl.nil_
      rw [show sendC 1 L.length 0 0 ([] : List UInt8).length = 7 from e7] at this
      exact this
    go_enter Try.func5, Try.ntmps5
    go_wp2_with (first
      | (go_at_call 9; refine (known_any _).mono ?_; rintro e w1 ⟨rfl, hb1⟩)
      | (go_at_call 11; with_reducible refine (hnew _ hb1).mono ?_; rintro e w2 ⟨rfl, hg2⟩))
    clear hnew
    generalize w1.heap.size = X at *
    go_loopw [5, 6] (fun f i wr => ∃ (L : List Pk) (k : Nat) (F : Int), k ≤ N ∧ i = .int .i64 k ∧ f = .int .i64 F ∧ Hid (L.length = min k 4096 ∧ F = k - L.length) ∧ NetGo w wr X 1 L L.length) (fun _ i _ => N - (intOf i).toNat)
    case atStart => exact ⟨[], 0, 0, by omega, rfl, rfl, Lib.hid ⟨rfl, rfl⟩, hg2⟩
    case round =>
      obtain ⟨L, k, F, hk, rfl, rfl, HL, hg⟩ := hrel
      have hL := HL.out
      by_cases hlt : k < N
      · have hlx : (k : Int) < (N : Int) := by omega
        by_cases hk4 : k < 4096
        · have hL4 : L.length < 4096 := by omega
          have hs := hsok _ _ _ hL4 hg
          clear hL
          go_wp2_with (go_at_call 20; with_reducible refine hs.mono ?_; rintro e w3 ⟨p, rfl, hg3⟩)
          have hL := HL.out
          exact ⟨⟨L ++ [p], k + 1, F, by omega, by go_num, rfl, Lib.hid ⟨by rw [List.length_append]; simp; omega, by rw [List.length_append]; simp; omega⟩, hg3⟩, by simp [intOf]; omega⟩
        · have hL4 : ¬ L.length < 4096 := by omega
          have hs := hsno _ _ _ hL4 hg
          have hF1 : 0 ≤ F := by omega
          have hF2 : F ≤ 10000 := by omega
          clear hL
          go_wp2_with (go_at_call 20; with_reducible refine hs.mono ?_; rintro e w3 ⟨rfl, rfl⟩)
          have hL := HL.out
          exact ⟨⟨L, k + 1, F + 1, by omega, by go_num, by go_num, Lib.hid ⟨by omega, by omega⟩, hg⟩, by simp [intOf]; omega⟩
      · obtain rfl : k = N := by omega
        have hw := waiting_go hg
        have hse := sent_go hg
        have hbl := hg.bl
        by_cases hN : 4096 < k
        · have hL4 : (L.length : Int) = 4096 := by omega
          obtain rfl : F = k - 4096 := by omega
          have hc := copyno_go hg (i := 0) (by omega)
          rw [hL4] at hw hse
          have hk4 : k = 4097 ∨ k = 4098 ∨ k = 4099 ∨ k = 4100 := by omega
          clear hL HL hL4 hN hlt h3 hk hsok hsno hg hb1 hg2 h4 g3 g4
          rcases hk4 with rfl | rfl | rfl | rfl
          all_goals
            go_wp2_with (first
              | (go_at_call 14; with_reducible refine hw.mono ?_; rintro e w' ⟨rfl, rfl⟩)
              | (go_at_call 21; with_reducible refine hc.mono ?_; rintro e w' ⟨rfl, rfl⟩)
              | (go_at_call 15; with_reducible refine hse.mono ?_; rintro e w' ⟨rfl, rfl⟩))
          all_goals go_ret
          all_goals exact ⟨rfl, hbl⟩
        · by_cases hN2 : k = 4096
          · subst hN2
            have hL4 : (L.length : Int) = 4096 := by omega
            obtain rfl : F = 0 := by omega
            have hc := copyno_go hg (i := 0) (by omega)
            rw [hL4] at hw hse
            clear hL HL hL4 hN hlt h3 hk hsok hsno hg hb1 hg2 h4 g3 g4
            go_wp2_with (first
              | (go_at_call 14; with_reducible refine hw.mono ?_; rintro e w' ⟨rfl, rfl⟩)
              | (go_at_call 21; with_reducible refine hc.mono ?_; rintro e w' ⟨rfl, rfl⟩)
              | (go_at_call 15; with_reducible refine hse.mono ?_; rintro e w' ⟨rfl, rfl⟩))
            go_ret
            exact ⟨rfl, hbl⟩
          · have hL4 : (L.length : Int) = k := by omega
            obtain rfl : F = 0 := by omega
            have hc : Calls Try.prog 21 #[.pointer (some ⟨X, 0, none⟩), .int .i64 0] wr fun e w' => e = .returned (.bool true) ∧ Below w.heap.size w w' := by
              refine (copy_go hg (Below.refl _ _) (i := 0) (by omega) (by omega)).mono ?_
              rintro e w' ⟨d, rfl, h, _⟩
              exact ⟨rfl, h.bl⟩
            rw [hL4] at hw hse
            have hk4 : k = 4090 ∨ k = 4091 ∨ k = 4092 ∨ k = 4093 ∨ k = 4094 ∨ k = 4095 := by omega
            clear hL HL hL4 hN hlt h3 hk hsok hsno hg hb1 hg2 h4 g3 g4 hN2
            rcases hk4 with rfl | rfl | rfl | rfl | rfl | rfl
            all_goals
              go_wp2_with (first
              | (go_at_call 14; with_reducible refine hw.mono ?_; rintro e w' ⟨rfl, rfl⟩)
              | (go_at_call 21; with_reducible refine hc.mono ?_; rintro e w2 ⟨rfl, hb2⟩)
              | (go_at_call 15; with_reducible refine hse.mono ?_; rintro e w' ⟨rfl, rfl⟩))
            all_goals go_ret
            all_goals exact ⟨rfl, hb2⟩
set_option maxRecDepth 100000 in
theorem lifted (os : Os) (started : os.Started) (H : Type) (enc : TypeId × Value → H) :
    ReturnsInHanded {} Try.checked os 5 .any (Rows.netFullSpec.pre6 enc Try.prog Try.f5 Rows.netFullRow.domain false) (Rows.netFullSpec.post enc Try.prog Try.f5 false true false false) := by
  refine returnsInHanded_of_change (C := Try.checked) own started (by kernel_rfl) Try.func5
    (ChangeSpec.witness6 (enc := enc) (C := Try.checked) false ⟨#[], #[.int .i64 0], []⟩ 8 (by kernel_rfl) (by kernel_rfl) (by kernel_rfl) (by kernel_rfl)) ?_
  intro W base args ds gs before hval0 hW hcnd _
  have hval : ∀ (j : Nat) t v, Try.f5.params[j]? = some t → args[j]? = some v → Value.okWide Try.prog W .any base t v := hval0
  have hW' := hW
  obtain ⟨p, q, hA0, hV, rfl, hfz, hnd⟩ := hW
  have hA : DataW.TrodAll enc Try.prog W 0 (fun _ => true) true Try.f5.params.toList args.toList ds p := hA0
  rw [Try.params5] at hA hval
  obtain ⟨v0, vs0, d0, ds0, p0, q0, hargs, rfl, rfl, h0, r0⟩ := trodAll_cons hA
  obtain ⟨rfl, rfl, rfl⟩ := trodAll_nil r0
  obtain rfl : args = #[v0] := by cases args; simp_all
  obtain ⟨rfl, rfl⟩ := trodVars_none hV
  obtain ⟨a0, rfl, _, _, w0⟩ := open_int Try.underlying3 (hval 0 3 v0 rfl rfl) h0
  have b0 := bounds_i64 w0
  refine (walk a0 W b0.1 b0.2).mono fun e W' ⟨he, hb⟩ => ?_
  subst he
  exact ⟨_, rfl, law_post laidOut (by kernel_rfl) rfl (by kernel_rfl) Try.underlying4 rfl rfl rfl hW' hb⟩

theorem proved : Rows.NetFullSaid :=
  OpenClaim.holds_of_wide 5 Try.f5 rfl rfl rfl rfl rfl rfl rfl ⟨rfl, rfl, rfl, rfl, rfl⟩ rfl rfl rfl rfl rfl (by kernel_rfl) Try.func5 (by kernel_rfl)
    (of_decide_eq_true (by kernel_rfl)) (by unfold Func.isWrapper; first | (rw [if_pos (by decide +kernel)]; kernel_rfl) | (rw [if_neg (by decide +kernel)]; exact ⟨rfl, rfl⟩))
    (fun os started H enc _ => lifted os started H enc)
end Full
end Go.Proofs.Ytmlimmcaidkoeaa
