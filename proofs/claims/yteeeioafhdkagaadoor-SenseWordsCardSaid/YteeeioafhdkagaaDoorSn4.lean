/- Package sense: Text, Inquiry, Good: contracts. -/
import Derived.Test.YteeeioafhdkagaaDoorSn3
import Derived.Lib.BufferWrite
namespace Go.Proofs.YteeeioafhdkagaaDoor
open Go.ChangeShapes Go.WideShapes Go.ChangeAt Go.RowKit
set_option linter.unusedVariables false
theorem itoa_len (n : Int) (h0 : -9223372036854775808 ≤ n) (h1 : n ≤ 9223372036854775807) : (⟨(Lib.itoa n).toArray⟩ : ByteArray).size ≤ 21 := by
  have h := Lib.itoa_length_le n h0 h1
  simpa [ByteArray.size] using h
set_option maxHeartbeats 2000000 in
theorem Text_any (s k a : Int) (hs0 : -9223372036854775808 ≤ s) (hs1 : s ≤ 9223372036854775807) (hk0 : -9223372036854775808 ≤ k) (hk1 : k ≤ 9223372036854775807) (ha0 : -9223372036854775808 ≤ a) (ha1 : a ≤ 9223372036854775807) (w : World) (ht : Tab w) :
    Calls Tryd.prog 5 #[.agg #[.int .i64 s, .int .i64 k, .int .i64 a, .slice none 0 0, .int .i64 0]] w fun e w' => e = .returned (.string (textB s k a)) ∧ Below w.heap.size w w' := by
  have hB1 : Below w.heap.size w (w.alloc (.cells #[.int .i64 s, .int .i64 k, .int .i64 a, .slice none 0 0, .int .i64 0] 26)) := (Below.refl _ _).alloc (Nat.le_refl _) _
  have hlt : w.heap.size < (w.alloc (.cells #[.int .i64 s, .int .i64 k, .int .i64 a, .slice none 0 0, .int .i64 0] 26)).heap.size := by simp
  have hcl : ∀ j u, (#[.int .i64 s, .int .i64 k, .int .i64 a, .slice none 0 0, .int .i64 0] : Array Value)[j]? = some u → (w.alloc (.cells #[.int .i64 s, .int .i64 k, .int .i64 a, .slice none 0 0, .int .i64 0] 26)).cell? ⟨w.heap.size, j, none⟩ = some u := fun j u hu => (cell_of_row _ _ j _ _ (0, 0) (heap_alloc_new w _)).trans hu
  have hx1 := hcl 1 _ rfl
  have hx2 := hcl 2 _ rfl
  have hI : ∀ v W, -9223372036854775808 ≤ v → v ≤ 9223372036854775807 → Below w.heap.size w W → Calls Tryd.prog 11 #[.int .i64 v] W fun e w' => e = .returned (.string ⟨(Lib.itoa v).toArray⟩) ∧ Below W.heap.size W w' := fun v W h0 h1 hW => Itoa_at v h0 h1 W (ht.below hW)
  have ls := itoa_len s hs0 hs1
  have lk := itoa_len k hk0 hk1
  have la := itoa_len a ha0 ha1
  clear hcl
  by_cases c0 : (s == 0) = true
  · have e : textB s k a = ⟨#[103, 111, 111, 100]⟩ := if_pos c0
    rw [e]
    go_enter Tryd.func5, Tryd.ntmps5
    go_wp2
    go_ret
    exact ⟨rfl, hB1⟩
  by_cases c1 : (s == 24) = true
  · have e : textB s k a = ⟨#[99, 111, 110, 102, 108, 105, 99, 116]⟩ := by unfold textB; rw [if_neg c0, if_pos c1]
    rw [e]
    simp only [Bool.not_eq_true] at c0
    go_enter Tryd.func5, Tryd.ntmps5
    go_wp2
    go_ret
    exact ⟨rfl, hB1⟩
  by_cases c2 : (s == 8) = true
  · have e : textB s k a = ⟨#[98, 117, 115, 121]⟩ := by unfold textB; rw [if_neg c0, if_neg c1, if_pos c2]
    rw [e]
    simp only [Bool.not_eq_true] at c0 c1
    go_enter Tryd.func5, Tryd.ntmps5
    go_wp2
    go_ret
    exact ⟨rfl, hB1⟩
  by_cases c3 : (s == 2) = true
  · have e : textB s k a = ((⟨#[99, 104, 101, 99, 107, 32]⟩ ++ ⟨(Lib.itoa k).toArray⟩) ++ ⟨#[32]⟩) ++ ⟨(Lib.itoa a).toArray⟩ := by unfold textB; rw [if_neg c0, if_neg c1, if_neg c2, if_pos c3]
    rw [e]
    simp only [Bool.not_eq_true] at c0 c1 c2
    have hI1 := fun W => hI k W hk0 hk1
    have hI2 := fun W => hI a W ha0 ha1
    have z1 : (⟨#[99, 104, 101, 99, 107, 32]⟩ : ByteArray).size = 6 := rfl
    have z2 : (⟨#[32]⟩ : ByteArray).size = 1 := rfl
    clear e ls hI
    generalize (⟨(Lib.itoa k).toArray⟩ : ByteArray) = ik at *
    generalize (⟨(Lib.itoa a).toArray⟩ : ByteArray) = ia at *
    have a1 : ∀ W, (Op.stringOp .add ⟨#[99, 104, 101, 99, 107, 32]⟩ ik).run Tryd.prog W = .ok (.string (⟨#[99, 104, 101, 99, 107, 32]⟩ ++ ik)) W := fun W => run_string_add_sum W _ _ (by rw [z1]; omega)
    have a2 : ∀ W, (Op.stringOp .add (⟨#[99, 104, 101, 99, 107, 32]⟩ ++ ik) ⟨#[32]⟩).run Tryd.prog W = .ok (.string ((⟨#[99, 104, 101, 99, 107, 32]⟩ ++ ik) ++ ⟨#[32]⟩)) W := fun W => run_string_add_sum W _ _ (by rw [ByteArray.size_append, z1, z2]; omega)
    have a3 : ∀ W, (Op.stringOp .add ((⟨#[99, 104, 101, 99, 107, 32]⟩ ++ ik) ++ ⟨#[32]⟩) ia).run Tryd.prog W = .ok (.string (((⟨#[99, 104, 101, 99, 107, 32]⟩ ++ ik) ++ ⟨#[32]⟩) ++ ia)) W := fun W => run_string_add_sum W _ _ (by rw [ByteArray.size_append, ByteArray.size_append, z1, z2]; omega)
    go_enter Tryd.func5, Tryd.ntmps5
    go_wp2_with fail
    generalize w.alloc (.cells #[.int .i64 s, .int .i64 k, .int .i64 a, .slice none 0 0, .int .i64 0] 26) = w1 at *
    clear z1 z2 lk la
    apply calm_region [.is _, .is _, .is _, .is _, .is _, .is _, .is _, .is _, .is _, .is _] [[], [0], [1], [2], [3], [], [5], [6, 2], [4, 7], [8, 7, 0, 1, 2, 3, 4, 5, 6, 7, 8]] (by kernel_rfl) (by kernel_rfl) (by kernel_rfl) rfl
    intro f a1 ha1
    simp only [putL, Act.put, List.setIfInBounds_toArray, List.set_cons_succ, List.set_cons_zero] at ha1
    subst ha1
    refine ⟨?_, ?_⟩
    · refine AllCalm.cons (fun W hB hd => ?_) ?_
      · go_wp2_with (fail)
        exact CalmQ.mk rfl _ rfl (Below.refl _ _) rfl
      refine AllCalm.cons (fun W hB hd => ?_) ?_
      · obtain ⟨h0, -⟩ := hd
        have h0 : f 0 = _ := h0
        rw [h0]
        have q := (hB.cell (p := ⟨w.heap.size, 1, none⟩) hlt).trans hx1
        go_wp2_with (fail)
        exact CalmQ.mk rfl _ rfl (Below.refl _ _) rfl
      refine AllCalm.cons (fun W hB hd => ?_) ?_
      · obtain ⟨h1, -⟩ := hd
        have h1 : f 1 = _ := h1
        rw [h1]
        go_wp2_with ((go_at_call 11; with_reducible refine (hI1 W (hB1.trans (hB.mono hB1.size))).mono ?_; rintro e w2 ⟨rfl, hb2⟩))
        exact CalmQ.mk rfl _ rfl hb2 rfl
      refine AllCalm.cons (fun W hB hd => ?_) ?_
      · obtain ⟨h2, -⟩ := hd
        have h2 : f 2 = _ := h2
        rw [h2]
        go_wp2_with (fail)
        exact CalmQ.mk rfl _ rfl (Below.refl _ _) rfl
      refine AllCalm.cons (fun W hB hd => ?_) ?_
      · obtain ⟨h3, -⟩ := hd
        have h3 : f 3 = _ := h3
        rw [h3]
        go_wp2_with (fail)
        exact CalmQ.mk rfl _ rfl (Below.refl _ _) rfl
      refine AllCalm.cons (fun W hB hd => ?_) ?_
      · go_wp2_with (fail)
        exact CalmQ.mk rfl _ rfl (Below.refl _ _) rfl
      refine AllCalm.cons (fun W hB hd => ?_) ?_
      · obtain ⟨h5, -⟩ := hd
        have h5 : f 5 = _ := h5
        rw [h5]
        have q := (hB.cell (p := ⟨w.heap.size, 2, none⟩) hlt).trans hx2
        go_wp2_with (fail)
        exact CalmQ.mk rfl _ rfl (Below.refl _ _) rfl
      refine AllCalm.cons (fun W hB hd => ?_) ?_
      · obtain ⟨h6, h2, -⟩ := hd
        have h6 : f 6 = _ := h6
        have h2 : f 2 = _ := h2
        rw [h6, h2]
        go_wp2_with ((go_at_call 11; with_reducible refine (hI2 W (hB1.trans (hB.mono hB1.size))).mono ?_; rintro e w2 ⟨rfl, hb2⟩))
        exact CalmQ.mk rfl _ rfl hb2 rfl
      refine AllCalm.cons (fun W hB hd => ?_) ?_
      · obtain ⟨h4, h7, -⟩ := hd
        have h4 : f 4 = _ := h4
        have h7 : f 7 = _ := h7
        rw [h4, h7]
        go_wp2_with (fail)
        exact CalmQ.mk rfl _ rfl (Below.refl _ _) rfl
      refine AllCalm.cons (fun W hB hd => ?_) ?_
      · obtain ⟨h8, h7, h0, h1, h2, h3, h4, h5, h6, -, -, -⟩ := hd
        have h8 : f 8 = _ := h8
        have h7 : f 7 = _ := h7
        have h0 : f 0 = _ := h0
        have h1 : f 1 = _ := h1
        have h2 : f 2 = _ := h2
        have h3 : f 3 = _ := h3
        have h4 : f 4 = _ := h4
        have h5 : f 5 = _ := h5
        have h6 : f 6 = _ := h6
        rw [h8, h7, h0, h1, h2, h3, h4, h5, h6]
        go_wp2_with (fail)
        exact CalmQ.mk rfl _ rfl (Below.refl _ _) rfl
      exact AllCalm.nil
    · intro W hB hT
      obtain ⟨h0, h1, h2, h3, h4, h5, h6, h7, h8, h9, -⟩ := hT
      have h0 : f 0 = _ := h0
      have h1 : f 1 = _ := h1
      have h2 : f 2 = _ := h2
      have h3 : f 3 = _ := h3
      have h4 : f 4 = _ := h4
      have h5 : f 5 = _ := h5
      have h6 : f 6 = _ := h6
      have h7 : f 7 = _ := h7
      have h8 : f 8 = _ := h8
      have h9 : f 9 = _ := h9
      rw [h0, h1, h2, h3, h4, h5, h6, h7, h8, h9]
      clear h0 h1 h2 h3 h4 h5 h6 h7 h8 h9
      go_wp2_with fail
      go_ret
      exact ⟨rfl, hB1.trans (hB.mono hB1.size)⟩
  · have e : textB s k a = ⟨#[115, 116, 97, 116, 117, 115, 32]⟩ ++ ⟨(Lib.itoa s).toArray⟩ := by unfold textB; rw [if_neg c0, if_neg c1, if_neg c2, if_neg c3]
    rw [e]
    simp only [Bool.not_eq_true] at c0 c1 c2 c3
    have hI1 := fun W => hI s W hs0 hs1
    clear e lk la hI
    generalize (⟨(Lib.itoa s).toArray⟩ : ByteArray) = is at *
    have z1 : (⟨#[115, 116, 97, 116, 117, 115, 32]⟩ : ByteArray).size = 7 := rfl
    have a1 : ∀ W, (Op.stringOp .add ⟨#[115, 116, 97, 116, 117, 115, 32]⟩ is).run Tryd.prog W = .ok (.string (⟨#[115, 116, 97, 116, 117, 115, 32]⟩ ++ is)) W := fun W => run_string_add_sum W _ _ (by rw [z1]; omega)
    clear z1 ls
    go_enter Tryd.func5, Tryd.ntmps5
    go_wp2_with (go_at_call 11; with_reducible refine (hI1 _ hB1).mono ?_; rintro e w2 ⟨rfl, hb2⟩)
    go_ret
    exact ⟨rfl, hB1.trans (hb2.mono hB1.size)⟩
end Go.Proofs.YteeeioafhdkagaaDoor
