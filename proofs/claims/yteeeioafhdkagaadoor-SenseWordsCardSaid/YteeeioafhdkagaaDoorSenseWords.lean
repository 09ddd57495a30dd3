/- SenseWords: for any two replies of few fields the statement's function tells true and turns nothing that was there. No condition. -/
import Derived.Test.YteeeioafhdkagaaDoorSn6
import Derived.Test.YteeeioafhdkagaaDoorCards
import Derived.Test.YteeeioafhdkagaaDoorTie
import Derived.Deep.DeepHandedRow
import Derived.Lay
import Derived.ChangeMaps5
namespace Go.Proofs.YteeeioafhdkagaaDoor
open Go.ChangeShapes Go.WideShapes Go.ChangeAt Go.RowKit
set_option linter.unusedVariables false
namespace Words
theorem textB_inj (s k a t l b : Int) : textB s k a = textB t l b ↔ (s = t ∧ (s ≠ 2 ∨ a = b ∧ k = l)) := by
  rw [← textS_inj, ← textB_is, ← textB_is]
  constructor
  · intro h; rw [h]
  · intro h
    have h2 : (textB s k a).data = (textB t l b).data := Array.toList_inj.1 h
    exact ByteArray.ext h2
set_option maxHeartbeats 2000000 in
theorem walk0 (a b s t k l : Int) (w : World) (ht : Tab w) (ha1 : -9223372036854775808 ≤ a) (ha2 : a ≤ 9223372036854775807) (hb1 : -9223372036854775808 ≤ b) (hb2 : b ≤ 9223372036854775807) (hs1 : -9223372036854775808 ≤ s) (hs2 : s ≤ 9223372036854775807) (ht1 : -9223372036854775808 ≤ t) (ht2 : t ≤ 9223372036854775807) (hk1 : -9223372036854775808 ≤ k) (hk2 : k ≤ 9223372036854775807) (hl1 : -9223372036854775808 ≤ l) (hl2 : l ≤ 9223372036854775807) :
    Calls Tryd.prog 3 #[.int .i64 a, .int .i64 b, .int .i64 s, .int .i64 t, .int .i64 k, .int .i64 l] w fun e w' => e = .returned (.bool true) ∧ Below w.heap.size w w' := by
  have c1 : ∀ W, Below w.heap.size w W → Calls Tryd.prog 5 #[.agg #[.int .i64 s, .int .i64 k, .int .i64 a, .slice none 0 0, .int .i64 0]] W fun e w' => e = .returned (.string (textB s k a)) ∧ Below W.heap.size W w' := fun W hW => Text_any s k a hs1 hs2 hk1 hk2 ha1 ha2 W (ht.below hW)
  have c2 : ∀ W, Below w.heap.size w W → Calls Tryd.prog 5 #[.agg #[.int .i64 t, .int .i64 l, .int .i64 b, .slice none 0 0, .int .i64 0]] W fun e w' => e = .returned (.string (textB t l b)) ∧ Below W.heap.size W w' := fun W hW => Text_any t l b ht1 ht2 hl1 hl2 hb1 hb2 W (ht.below hW)
  have hiff := textB_inj s k a t l b
  have hK := known5_any w ht
  generalize textB s k a = X at *
  generalize textB t l b = Y at *
  have key : (s ≠ t ∧ X ≠ Y) ∨ (s = t ∧ s ≠ 2 ∧ X = Y) ∨ (s = t ∧ s = 2 ∧ a ≠ b ∧ X ≠ Y) ∨ (s = t ∧ s = 2 ∧ a = b ∧ k ≠ l ∧ X ≠ Y) ∨ (s = t ∧ s = 2 ∧ a = b ∧ k = l ∧ X = Y) := by
    by_cases h1 : s = t
    · by_cases h2 : s = 2
      · by_cases h3 : a = b
        · by_cases h4 : k = l
          · exact .inr (.inr (.inr (.inr ⟨h1, h2, h3, h4, hiff.2 ⟨h1, .inr ⟨h3, h4⟩⟩⟩)))
          · have h6 : X ≠ Y := fun h => (hiff.1 h).2.elim (fun h5 => h5 h2) (fun h5 => h4 h5.2)
            exact .inr (.inr (.inr (.inl ⟨h1, h2, h3, h4, h6⟩)))
        · have h6 : X ≠ Y := fun h => (hiff.1 h).2.elim (fun h5 => h5 h2) (fun h5 => h3 h5.1)
          exact .inr (.inr (.inl ⟨h1, h2, h3, h6⟩))
      · exact .inr (.inl ⟨h1, h2, hiff.2 ⟨h1, .inl h2⟩⟩)
    · exact .inl ⟨h1, fun h => h1 (hiff.1 h).1⟩
  clear hiff
  rcases key with ⟨h1, h⟩ | ⟨h1, h2, h⟩ | ⟨h1, h2, h3, h⟩ | ⟨h1, h2, h3, h4, h⟩ | ⟨h1, h2, h3, h4, h⟩
  · have b1 : (s == t) = false := by rw [beq_eq_false_iff_ne]; assumption
    have e1 : (X == Y) = false := by show (X.data == Y.data) = false; rw [beq_eq_false_iff_ne]; exact fun h5 => h (ByteArray.ext h5)
    have e2 : (X.toList == Y.toList) = false := by rw [← beq_toListBytes]; exact e1
    clear h
    clear h1
    go_enter Tryd.func3, Tryd.ntmps3
    go_wp2_with (first
      | (go_at_call 4; with_reducible refine hK.mono ?_; rintro e w1 ⟨rfl, hw1⟩)
      | (go_at_call 5; with_reducible refine (c1 _ hw1).mono ?_; rintro e w2 ⟨rfl, hw2⟩; have hw12 := hw1.trans (hw2.mono hw1.size))
      | (go_at_call 5; with_reducible refine (c2 _ hw12).mono ?_; rintro e w3 ⟨rfl, hw3⟩; have hw13 := hw12.trans (hw3.mono hw12.size)))
    go_ret
    exact ⟨rfl, hw13⟩
  · have b1 : (s == t) = true := by rw [beq_iff_eq]; assumption
    have b2 : (s == (2 : Int)) = false := by rw [beq_eq_false_iff_ne]; assumption
    subst h
    have e1 : (X == X) = true := by show (X.data == X.data) = true; simp
    clear h1
    go_enter Tryd.func3, Tryd.ntmps3
    go_wp2_with (first
      | (go_at_call 4; with_reducible refine hK.mono ?_; rintro e w1 ⟨rfl, hw1⟩)
      | (go_at_call 5; with_reducible refine (c1 _ hw1).mono ?_; rintro e w2 ⟨rfl, hw2⟩; have hw12 := hw1.trans (hw2.mono hw1.size))
      | (go_at_call 5; with_reducible refine (c2 _ hw12).mono ?_; rintro e w3 ⟨rfl, hw3⟩; have hw13 := hw12.trans (hw3.mono hw12.size)))
    go_ret
    exact ⟨rfl, hw13⟩
  · subst h1
    subst h2
    have b3 : (a == b) = false := by rw [beq_eq_false_iff_ne]; assumption
    have e1 : (X == Y) = false := by show (X.data == Y.data) = false; rw [beq_eq_false_iff_ne]; exact fun h5 => h (ByteArray.ext h5)
    have e2 : (X.toList == Y.toList) = false := by rw [← beq_toListBytes]; exact e1
    clear h
    go_enter Tryd.func3, Tryd.ntmps3
    go_wp2_with (first
      | (go_at_call 4; with_reducible refine hK.mono ?_; rintro e w1 ⟨rfl, hw1⟩)
      | (go_at_call 5; with_reducible refine (c1 _ hw1).mono ?_; rintro e w2 ⟨rfl, hw2⟩; have hw12 := hw1.trans (hw2.mono hw1.size))
      | (go_at_call 5; with_reducible refine (c2 _ hw12).mono ?_; rintro e w3 ⟨rfl, hw3⟩; have hw13 := hw12.trans (hw3.mono hw12.size)))
    go_ret
    exact ⟨rfl, hw13⟩
  · subst h1
    subst h2
    subst h3
    have b4 : (k == l) = false := by rw [beq_eq_false_iff_ne]; assumption
    have e1 : (X == Y) = false := by show (X.data == Y.data) = false; rw [beq_eq_false_iff_ne]; exact fun h5 => h (ByteArray.ext h5)
    have e2 : (X.toList == Y.toList) = false := by rw [← beq_toListBytes]; exact e1
    clear h
    go_enter Tryd.func3, Tryd.ntmps3
    go_wp2_with (first
      | (go_at_call 4; with_reducible refine hK.mono ?_; rintro e w1 ⟨rfl, hw1⟩)
      | (go_at_call 5; with_reducible refine (c1 _ hw1).mono ?_; rintro e w2 ⟨rfl, hw2⟩; have hw12 := hw1.trans (hw2.mono hw1.size))
      | (go_at_call 5; with_reducible refine (c2 _ hw12).mono ?_; rintro e w3 ⟨rfl, hw3⟩; have hw13 := hw12.trans (hw3.mono hw12.size)))
    go_ret
    exact ⟨rfl, hw13⟩
  · subst h1
    subst h2
    subst h3
    subst h4
    subst h
    have e1 : (X == X) = true := by show (X.data == X.data) = true; simp
    go_enter Tryd.func3, Tryd.ntmps3
    go_wp2_with (first
      | (go_at_call 4; with_reducible refine hK.mono ?_; rintro e w1 ⟨rfl, hw1⟩)
      | (go_at_call 5; with_reducible refine (c1 _ hw1).mono ?_; rintro e w2 ⟨rfl, hw2⟩; have hw12 := hw1.trans (hw2.mono hw1.size))
      | (go_at_call 5; with_reducible refine (c2 _ hw12).mono ?_; rintro e w3 ⟨rfl, hw3⟩; have hw13 := hw12.trans (hw3.mono hw12.size)))
    go_ret
    exact ⟨rfl, hw13⟩
theorem walk (a b s t k l : Int) (W : World) (hsh : W.ShapedOpen Tryd.prog) (hL : laidMetH Tryd.prog Rows.senseWordsRow.laid W) (ha1 : -9223372036854775808 ≤ a) (ha2 : a ≤ 9223372036854775807) (hb1 : -9223372036854775808 ≤ b) (hb2 : b ≤ 9223372036854775807) (hs1 : -9223372036854775808 ≤ s) (hs2 : s ≤ 9223372036854775807) (ht1 : -9223372036854775808 ≤ t) (ht2 : t ≤ 9223372036854775807) (hk1 : -9223372036854775808 ≤ k) (hk2 : k ≤ 9223372036854775807) (hl1 : -9223372036854775808 ≤ l) (hl2 : l ≤ 9223372036854775807) :
    Calls Tryd.prog 3 #[.int .i64 a, .int .i64 b, .int .i64 s, .int .i64 t, .int .i64 k, .int .i64 l] W fun e w' => e = .returned (.bool true) ∧ Below W.heap.size W w' := by
  rw [MakeChecks.laidMetH_plain _ _ _ (by kernel_rfl)] at hL
  exact walk0 a b s t k l W (tab_of (by simp [Rows.senseWordsRow]) hL) ha1 ha2 hb1 hb2 hs1 hs2 ht1 ht2 hk1 hk2 hl1 hl2
theorem reads (os : Os) {H : Type} (enc : TypeId × Value → H) : ∃ places, DataW.whole enc Tryd.prog ((World.laidAll Tryd.prog os Rows.senseWordsRow.laid).forCall (fun _ _ => 0) ⟨#[], #[.int .i64 0, .int .i64 0, .int .i64 0, .int .i64 0, .int .i64 0, .int .i64 0], []⟩).memory Tryd.f3.params.toList Rows.senseWordsSpec.vars false (#[.int .i64 0, .int .i64 0, .int .i64 0, .int .i64 0, .int .i64 0, .int .i64 0] : Array Value).toList 8 = some ([.lit (.int .i64 0), .lit (.int .i64 0), .lit (.int .i64 0), .lit (.int .i64 0), .lit (.int .i64 0), .lit (.int .i64 0)], [], places) :=
  ⟨[], by kernel_rfl⟩
set_option maxRecDepth 100000 in
theorem lifted (os : Os) (started : os.Started) (H : Type) (enc : TypeId × Value → H) (F : Stop.Interp) :
    ReturnsInHanded {} Tryd.checked os 3 .any ((OpenSpec.ofChange Rows.senseWordsSpec).preRow enc Tryd.prog Tryd.f3 Rows.senseWordsRow.domain false Rows.senseWordsRow.laid) (((OpenSpec.ofChange Rows.senseWordsSpec).at F).post enc Tryd.prog Tryd.f3 false true false false) := by
  obtain ⟨places, hx⟩ := reads os enc
  have hok : Input.okWideB Tryd.checked.prog ((World.laidAll Tryd.prog os Rows.senseWordsRow.laid).forCall (fun _ _ => 0) ⟨#[], #[.int .i64 0, .int .i64 0, .int .i64 0, .int .i64 0, .int .i64 0, .int .i64 0], []⟩) 3 ⟨#[], #[.int .i64 0, .int .i64 0, .int .i64 0, .int .i64 0, .int .i64 0, .int .i64 0], []⟩ = true := by kernel_rfl
  refine returnsInHanded_of_row (C := Tryd.checked) (s := OpenSpec.ofChange Rows.senseWordsSpec) own started (by kernel_rfl) Tryd.func3
    ⟨World.laidAll Tryd.prog os Rows.senseWordsRow.laid, fun _ _ => 0, ⟨#[], #[.int .i64 0, .int .i64 0, .int .i64 0, .int .i64 0, .int .i64 0, .int .i64 0], []⟩, World.laidAll_os _ _ _, World.shaped_of_ZipB (by kernel_rfl) (by kernel_rfl), (Input.okWide_of_okWideB (base := 0) hok).1, (Input.okWide_of_okWideB hok).2,
      OpenSpec.preRow_of_cond 8 hx (by kernel_rfl) (fun k hk => by cases hk) (by kernel_rfl) (by rw [MakeChecks.laidMetH_plain _ _ _ (by kernel_rfl)]; exact laidMet_laidAll _ (by kernel_rfl) (by kernel_rfl)),
      by simp only [Assume.holds]; exact ⟨by simp, by simp, fun _ => Modest.zero, by simp, by simp⟩⟩ ?_
  intro W base args ds gs before hval0 hW _ _ _ hL hsh _
  have hval : ∀ (j : Nat) t v, Tryd.f3.params[j]? = some t → args[j]? = some v → Value.okWide Tryd.prog W .any base t v := hval0
  have hW' := hW
  obtain ⟨p, q, hA0, hV, rfl, hfz, hnd⟩ := hW
  have hA : DataW.TrodAll enc Tryd.prog W 0 (fun _ => true) true Tryd.f3.params.toList args.toList ds p := hA0
  rw [Tryd.params3] at hA hval
  obtain ⟨v0, vs0, d0, ds0, p0, q0, hargs, rfl, rfl, h0, r0⟩ := trodAll_cons hA
  obtain ⟨v1, vs1, d1, ds1, p1, q1, rfl, rfl, rfl, h1, r1⟩ := trodAll_cons r0
  obtain ⟨v2, vs2, d2, ds2, p2, q2, rfl, rfl, rfl, h2, r2⟩ := trodAll_cons r1
  obtain ⟨v3, vs3, d3, ds3, p3, q3, rfl, rfl, rfl, h3, r3⟩ := trodAll_cons r2
  obtain ⟨v4, vs4, d4, ds4, p4, q4, rfl, rfl, rfl, h4, r4⟩ := trodAll_cons r3
  obtain ⟨v5, vs5, d5, ds5, p5, q5, rfl, rfl, rfl, h5, r5⟩ := trodAll_cons r4
  obtain ⟨rfl, rfl, rfl⟩ := trodAll_nil r5
  obtain rfl : args = #[v0, v1, v2, v3, v4, v5] := by cases args; simp_all
  obtain ⟨rfl, rfl⟩ := trodVars_none hV
  obtain ⟨a0, rfl, _, _, w0⟩ := open_int Tryd.underlying3 (hval 0 3 v0 rfl rfl) h0
  have b0 := bounds_i64 w0
  obtain ⟨a1, rfl, _, _, w1⟩ := open_int Tryd.underlying3 (hval 1 3 v1 rfl rfl) h1
  have b1 := bounds_i64 w1
  obtain ⟨a2, rfl, _, _, w2⟩ := open_int Tryd.underlying3 (hval 2 3 v2 rfl rfl) h2
  have b2 := bounds_i64 w2
  obtain ⟨a3, rfl, _, _, w3⟩ := open_int Tryd.underlying3 (hval 3 3 v3 rfl rfl) h3
  have b3 := bounds_i64 w3
  obtain ⟨a4, rfl, _, _, w4⟩ := open_int Tryd.underlying3 (hval 4 3 v4 rfl rfl) h4
  have b4 := bounds_i64 w4
  obtain ⟨a5, rfl, _, _, w5⟩ := open_int Tryd.underlying3 (hval 5 3 v5 rfl rfl) h5
  have b5 := bounds_i64 w5
  refine (walk a0 a1 a2 a3 a4 a5 W hsh hL b0.1 b0.2 b1.1 b1.2 b2.1 b2.2 b3.1 b3.2 b4.1 b4.2 b5.1 b5.2).mono fun e W' ⟨he, hb⟩ => ?_
  subst he
  exact ⟨_, rfl, law_post laidOut (by kernel_rfl) rfl (by kernel_rfl) Tryd.underlying4 rfl rfl rfl hW' hb⟩

theorem said : Rows.SenseWordsSaid :=
  OpenClaim.holds_of_cond 3 Tryd.f3 rfl rfl rfl rfl rfl rfl rfl ⟨rfl, rfl, rfl, rfl, rfl⟩ rfl rfl rfl rfl rfl (by kernel_rfl) Tryd.func3 (by kernel_rfl)
    (of_decide_eq_true (by kernel_rfl)) (by unfold Func.isWrapper; first | (rw [if_pos (by decide +kernel)]; kernel_rfl) | (rw [if_neg (by decide +kernel)]; exact ⟨rfl, rfl⟩))
    (fun os started H enc _ F => by rw [OpenClaim.pre_eq_preRow]; exact lifted os started H enc F)
theorem proved : Rows.SenseWordsCardSaid :=
  Claim7.holds_tied_plain_at .later [] _ _ _ _ said (fun _ h => by cases h) (by kernel_rfl) (fun _ h => by cases h) senseWords_row_tie rfl ⟨rfl, rfl⟩ (by kernel_rfl) rfl
    (fun f fn hf hfn => by
      obtain rfl : f = 3 := Option.some.inj ((show Tryd.prog.funcNamed "gemel/gemellaw5.SenseWords" = some 3 by kernel_rfl).symm.trans hf) |>.symm
      obtain rfl : fn = Tryd.f3 := (Option.some.inj (Tryd.func3.symm.trans hfn)).symm
      refine ⟨by kernel_rfl, fun j t ht => ?_⟩
      rw [Tryd.params3] at ht
      have hmem : t ∈ [3, 3, 3, 3, 3, 3] := by simpa using Array.mem_of_getElem? ht
      have hall : ([3, 3, 3, 3, 3, 3].all fun u => !Tryd.prog.wantsStandIn u) = true := by kernel_rfl
      exact (show Tryd.prog.wantsStandIn t = false by simpa using List.all_eq_true.1 hall t hmem))
    (by kernel_rfl)
end Words
end Go.Proofs.YteeeioafhdkagaaDoor
