/- TwinBlank: for all numbers the statement's function tells true and turns nothing that was there. No condition. -/
import Derived.Test.YtddliemjbolffaaTn5
namespace Go.Proofs.Ytddliemjbolffaa
open Go.ChangeShapes Go.WideShapes Go.ChangeAt Go.RowKit Go.Lib
set_option linter.unusedVariables false
set_option linter.unusedSimpArgs false
namespace Tw
open Dk
theorem best_new (s a : Nat) : bestTo (DS.new s) a 2 = none := by
  have h : ∀ i, (DS.new s).now i = [] := fun i => by rw [DS.now_eq, new_wa, new_la]; rfl
  rw [bestTo_two, h, h, cand_zero, cand_zero]
  rfl
set_option maxRecDepth 100000 in
theorem walk_out (s a : Int) (w : World) (ho : s < 1 ∨ 10 < s) :
    Calls Try.prog 4 #[.int .i64 s, .int .i64 a] w fun e w' => e = .returned (.bool true) ∧ Below w.heap.size w w' := by
  by_cases h1 : s < 1
  · go_enter Try.func4, Try.ntmps4
    go_wp2_with (go_at_call 5; refine (known_any _).mono ?_; rintro e w1 ⟨rfl, hb1⟩)
    go_ret
    exact ⟨rfl, hb1⟩
  · have h2 : 10 < s := by omega
    go_enter Try.func4, Try.ntmps4
    go_wp2_with (go_at_call 5; refine (known_any _).mono ?_; rintro e w1 ⟨rfl, hb1⟩)
    go_ret
    exact ⟨rfl, hb1⟩
set_option maxRecDepth 100000 in
theorem walk_no (s : Nat) (a : Int) (w : World) (h1 : 1 ≤ s) (h2 : s ≤ 10) (hno : ¬ (0 ≤ a ∧ a + 1 < (s : Int))) (ha : -9223372036854775808 ≤ a) (ha2 : a ≤ 9223372036854775807) :
    Calls Try.prog 4 #[.int .i64 (s : Nat), .int .i64 a] w fun e w' => e = .returned (.bool true) ∧ Below w.heap.size w w' := by
  have h1x : ¬ (s : Int) < 1 := by omega
  have h2x : ¬ (10 : Int) < (s : Int) := by omega
  have h2y : (s : Int) ≤ 10 := by omega
  have cNew : ∀ W, Below w.heap.size w W → Calls Try.prog 10 #[.int .i64 (s : Nat)] W fun e w' => ∃ X O, e = .returned (.tuple #[.pointer (some ⟨X, 0, none⟩), .int .i64 0]) ∧ Dsk w w' X O (DS.new s) := fun W hW => (d_new (o := w) s h1 (by omega) hW).mono fun e w' ⟨X, O, h1, h2, _⟩ => ⟨X, O, h1, h2⟩
  have hlen : (DS.new s).last.length = s := by simp [DS.new]
  have cO : ∀ W X O, Dsk w W X O (DS.new s) → Calls Try.prog 11 #[.pointer (some ⟨X, 0, none⟩), .int .i64 a] W fun e w' => e = .returned (.tuple #[.pointer none, .int .i64 1]) ∧ W = w' := fun W X O hs => open_no hs a (by rw [hlen]; exact hno)
  have cF : ∀ W X O, Dsk w W X O (DS.new s) → Calls Try.prog 12 #[.pointer (some ⟨X, 0, none⟩), .int .i64 a, .slice none 0 0] W fun e w' => e = .returned (.int .i64 1) ∧ W = w' := fun W X O hs => format_no hs a _ (by rw [hlen]; exact hno)
  clear hlen
  by_cases hn : a < 0
  · clear hno
    go_enter Try.func4, Try.ntmps4
    go_wp2_with (first
      | (go_at_call 5; refine (known_any _).mono ?_; rintro e w1 ⟨rfl, hb1⟩)
      | (go_at_call 10; (with_reducible refine (cNew _ hb1).mono ?_); rintro e w2 ⟨X, O, rfl, s2⟩)
      | (go_at_call 11; (with_reducible refine (cO _ _ _ s2).mono ?_); rintro e w3 ⟨rfl, rfl⟩)
      | (go_at_call 12; (with_reducible refine (cF _ _ _ s2).mono ?_); rintro e w4 ⟨rfl, rfl⟩))
    all_goals go_ret
    all_goals exact ⟨rfl, s2.bl⟩
  · have hg : (s : Int) - 2 < a := by omega
    have hn' : 0 ≤ a := by omega
    clear hno
    go_enter Try.func4, Try.ntmps4
    go_wp2_with (first
      | (go_at_call 5; refine (known_any _).mono ?_; rintro e w1 ⟨rfl, hb1⟩)
      | (go_at_call 10; (with_reducible refine (cNew _ hb1).mono ?_); rintro e w2 ⟨X, O, rfl, s2⟩)
      | (go_at_call 11; (with_reducible refine (cO _ _ _ s2).mono ?_); rintro e w3 ⟨rfl, rfl⟩)
      | (go_at_call 12; (with_reducible refine (cF _ _ _ s2).mono ?_); rintro e w4 ⟨rfl, rfl⟩))
    all_goals go_ret
    all_goals exact ⟨rfl, s2.bl⟩
set_option maxRecDepth 100000 in
set_option maxHeartbeats 1000000 in
theorem walk_yes (s a : Nat) (w : World) (h2 : s ≤ 10) (ha : a + 1 < s) :
    Calls Try.prog 4 #[.int .i64 (s : Nat), .int .i64 (a : Nat)] w fun e w' => e = .returned (.bool true) ∧ Below w.heap.size w w' := by
  have h1x : ¬ (s : Int) < 1 := by omega
  have h2x : ¬ (10 : Int) < (s : Int) := by omega
  have h2y : (s : Int) ≤ 10 := by omega
  have hax : ¬ (s : Int) - 2 < (a : Int) := by omega
  have cNew : ∀ W, Below w.heap.size w W → Calls Try.prog 10 #[.int .i64 (s : Nat)] W fun e w' => ∃ X O, e = .returned (.tuple #[.pointer (some ⟨X, 0, none⟩), .int .i64 0]) ∧ Dsk w w' X O (DS.new s) := fun W hW => (d_new (o := w) s (by omega) (by omega) hW).mono fun e w' ⟨X, O, h1, h2, _⟩ => ⟨X, O, h1, h2⟩
  have hlen : (DS.new s).last.length = s := by simp [DS.new]
  have hal : a + 1 < (DS.new s).last.length := by omega
  have cO : ∀ W X O, Dsk w W X O (DS.new s) → Calls Try.prog 11 #[.pointer (some ⟨X, 0, none⟩), .int .i64 (a : Nat)] W fun e w' => e = .returned (.tuple #[.pointer none, .int .i64 2]) ∧ Dsk w w' X O (DS.new s) := by
    intro W X O hs
    refine (open_ok hs rfl rfl a hal (Nat.zero_le _)).mono ?_
    rintro e w' ⟨p, hF, rfl, hbl⟩
    rw [best_new] at hF ⊢
    have hF : p = .pointer none := hF
    subst hF
    exact ⟨rfl, hs.below hbl⟩
  have cF : ∀ W X O, Dsk w W X O (DS.new s) → Calls Try.prog 12 #[.pointer (some ⟨X, 0, none⟩), .int .i64 (a : Nat), .slice none 0 0] W fun e w' => ∃ O', e = .returned (.int .i64 0) ∧ Dsk w w' X O' (fmtS (DS.new s) a []) := fun W X O hs => (format_ok hs ⟨rfl, rfl, rfl⟩ a hal (Nat.zero_le _) (Nat.zero_le _) _ [] Sl.nil_ (by decide)).mono fun e w' ⟨O', h1, h2, _⟩ => ⟨O', h1, h2⟩
  have hF := Fine.new s (by omega)
  have hbf := best_fmt hF hal (l := []) (by decide)
  have hfl : a + 1 < (fmtS (DS.new s) a []).last.length := by
    have : (fmtS (DS.new s) a []).last.length = (DS.new s).last.length := flsh_len ..
    omega
  have cO2 : ∀ W X O, Dsk w W X O (fmtS (DS.new s) a []) → Calls Try.prog 11 #[.pointer (some ⟨X, 0, none⟩), .int .i64 (a : Nat)] W fun e w' => ∃ Y v, e = .returned (.tuple #[.pointer (some ⟨Y, 0, none⟩), .int .i64 0]) ∧ TwM W.heap.size w' O Y X a 1 v [] ∧ Dsk w w' X O (fmtS (DS.new s) a []) ∧ Below W.heap.size W w' := fun W X O hs => open_is hs rfl rfl a hfl (Nat.zero_le _) hbf
  have cV : ∀ W O Y X B v, TwM B W O Y X a 1 v [] → Calls Try.prog 14 #[.pointer (some ⟨Y, 0, none⟩)] W fun e w' => ∃ A c, e = .returned (.slice A 0 c) ∧ Below W.heap.size W w' := fun W O Y X B v ht => (value_any ht).mono fun e w' ⟨v', h1, h2, h3⟩ => by
    obtain ⟨A, c, rfl, _, _⟩ := own_form h2
    exact ⟨A, c, h1, h3⟩
  have cN : ∀ W O Y X B v, TwM B W O Y X a 1 v [] → Calls Try.prog 13 #[.pointer (some ⟨Y, 0, none⟩)] W fun e w' => e = .returned (.int .u64 1) ∧ W = w' := fun W O Y X B v ht => number_any ht
  clear hlen hal hF hbf hfl
  go_enter Try.func4, Try.ntmps4
  go_wp2_with (first
    | (go_at_call 5; refine (known_any _).mono ?_; rintro e w1 ⟨rfl, hb1⟩)
    | (go_at_call 10; (with_reducible refine (cNew _ hb1).mono ?_); rintro e w2 ⟨X, O, rfl, s2⟩)
    | (go_at_call 11; (with_reducible refine (cO2 _ _ _ s4).mono ?_); rintro e w5 ⟨Y5, v5, rfl, t5, s5, b5⟩)
    | (go_at_call 11; (with_reducible refine (cO _ _ _ s2).mono ?_); rintro e w3 ⟨rfl, s3⟩)
    | (go_at_call 12; (with_reducible refine (cF _ _ _ s3).mono ?_); rintro e w4 ⟨O4, rfl, s4⟩)
    | (go_at_call 13; (with_reducible refine (cN _ _ _ _ _ _ t5).mono ?_); rintro e w6 ⟨rfl, rfl⟩)
    | (go_at_call 14; (with_reducible refine (cV _ _ _ _ _ _ t5).mono ?_); rintro e w7 ⟨A7, c7, rfl, b7⟩))
  all_goals go_ret
  all_goals exact ⟨rfl, s5.bl.trans (b7.mono s5.bl.size)⟩
theorem walk (s a : Int) (w : World) (_ : -9223372036854775808 ≤ s) (_ : s ≤ 9223372036854775807) (_ : -9223372036854775808 ≤ a) (_ : a ≤ 9223372036854775807) :
    Calls Try.prog 4 #[.int .i64 s, .int .i64 a] w fun e w' => e = .returned (.bool true) ∧ Below w.heap.size w w' := by
  by_cases ho : s < 1 ∨ 10 < s
  · exact walk_out s a w ho
  · obtain ⟨n, rfl⟩ : ∃ n : Nat, s = n := ⟨s.toNat, by omega⟩
    by_cases hy : 0 ≤ a ∧ a + 1 < (n : Int)
    · obtain ⟨m, rfl⟩ : ∃ m : Nat, a = m := ⟨a.toNat, by omega⟩
      exact walk_yes n m w (by omega) (by omega)
    · exact walk_no n a w (by omega) (by omega) hy (by assumption) (by assumption)
set_option maxRecDepth 100000 in
theorem lifted (os : Os) (started : os.Started) (H : Type) (enc : TypeId × Value → H) :
    ReturnsInHanded {} Try.checked os 4 .any (Rows.twinBlankSpec.pre6 enc Try.prog Try.f4 Rows.twinBlankRow.domain false) (Rows.twinBlankSpec.post enc Try.prog Try.f4 false true false false) := by
  refine returnsInHanded_of_change (C := Try.checked) own started (by kernel_rfl) Try.func4
    (ChangeSpec.witness6 (enc := enc) (C := Try.checked) false ⟨#[], #[.int .i64 0, .int .i64 0], []⟩ 8 (by kernel_rfl) (by kernel_rfl) (by kernel_rfl) (by kernel_rfl)) ?_
  intro W base args ds gs before hval0 hW hcnd _
  have hval : ∀ (j : Nat) t v, Try.f4.params[j]? = some t → args[j]? = some v → Value.okWide Try.prog W .any base t v := hval0
  have hW' := hW
  obtain ⟨p, q, hA0, hV, rfl, hfz, hnd⟩ := hW
  have hA : DataW.TrodAll enc Try.prog W 0 (fun _ => true) true Try.f4.params.toList args.toList ds p := hA0
  rw [Try.params4] at hA hval
  obtain ⟨v0, vs0, d0, ds0, p0, q0, hargs, rfl, rfl, h0, r0⟩ := trodAll_cons hA
  obtain ⟨v1, vs1, d1, ds1, p1, q1, rfl, rfl, rfl, h1, r1⟩ := trodAll_cons r0
  obtain ⟨rfl, rfl, rfl⟩ := trodAll_nil r1
  obtain rfl : args = #[v0, v1] := by cases args; simp_all
  obtain ⟨rfl, rfl⟩ := trodVars_none hV
  obtain ⟨a0, rfl, _, _, w0⟩ := open_int Try.underlying3 (hval 0 3 v0 rfl rfl) h0
  have b0 := bounds_i64 w0
  obtain ⟨a1, rfl, _, _, w1⟩ := open_int Try.underlying3 (hval 1 3 v1 rfl rfl) h1
  have b1 := bounds_i64 w1
  refine (walk a0 a1 W b0.1 b0.2 b1.1 b1.2).mono fun e W' ⟨he, hb⟩ => ?_
  subst he
  exact ⟨_, rfl, law_post laidOut (by kernel_rfl) rfl (by kernel_rfl) Try.underlying4 rfl rfl rfl hW' hb⟩

theorem proved : Rows.TwinBlankSaid :=
  OpenClaim.holds_of_wide 4 Try.f4 rfl rfl rfl rfl rfl rfl rfl ⟨rfl, rfl, rfl, rfl, rfl⟩ rfl rfl rfl rfl rfl (by kernel_rfl) Try.func4 (by kernel_rfl)
    (of_decide_eq_true (by kernel_rfl)) (by unfold Func.isWrapper; first | (rw [if_pos (by decide +kernel)]; kernel_rfl) | (rw [if_neg (by decide +kernel)]; exact ⟨rfl, rfl⟩))
    (fun os started H enc _ => lifted os started H enc)
end Tw
end Go.Proofs.Ytddliemjbolffaa
