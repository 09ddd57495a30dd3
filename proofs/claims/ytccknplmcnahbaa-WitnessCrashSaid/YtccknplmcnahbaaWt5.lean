/- Law 23: its known. -/
import Derived.Test.YtccknplmcnahbaaWt4
namespace Go.Proofs.Ytccknplmcnahbaa
open Go.ChangeShapes Go.WideShapes Go.ChangeAt Go.RowKit Go.Lib
set_option linter.unusedVariables false
set_option linter.unusedSimpArgs false
set_option maxRecDepth 100000
namespace Wt
open Dk Tw
theorem fmt_last (S : DS) (a : Nat) (l : List UInt8) : (fmtS S a l).last.length = S.last.length := flsh_len ..
theorem put_last (S : DS) (a n : Nat) (l : List UInt8) : (Tw.putS S a n l).last.length = S.last.length := flsh_len ..
theorem fmt_up {S : DS} (hu : S.up) (a : Nat) (l : List UInt8) : (fmtS S a l).up := ⟨hu.dead, hu.off, hu.arm⟩
theorem putS_up {S : DS} (hu : S.up) (a n : Nat) (l : List UInt8) : (Tw.putS S a n l).up := ⟨hu.dead, hu.off, hu.arm⟩
theorem new_up (k : Nat) : (DS.new k).up := ⟨rfl, rfl, rfl⟩
section
variable {o w w' : World} {X Y Z n : Nat} {O O' : Nat → Prop} {S : DS} {l : List UInt8} {e p m : Nat}
theorem boxW (h : Wit o w Z Y X O S n l e p m) (cs : Array Value) : ∃ W2, W2 = (w.alloc (.cells #[.int .u64 0, .int .i64 0, .int .i64 0] 24)).setRow w.heap.size cs ∧ Wit o W2 Z Y X O S n l e p m ∧ Mem W2 w.heap.size 24 cs ∧ Below w.heap.size w W2 := by
  have hb : Below w.heap.size w ((w.alloc (.cells #[.int .u64 0, .int .i64 0, .int .i64 0] 24)).setRow w.heap.size cs) := below_setRow ((Below.refl _ w).alloc (Nat.le_refl _) _) (Nat.le_refl _) _
  exact ⟨_, rfl, h.below hb, (Mem.new w _ _).row cs, hb⟩
end
set_option maxHeartbeats 8000000 in
theorem known_any (w : World) : Calls Try.prog 6 #[] w fun e' w' => e' = .returned (.bool true) ∧ Below w.heap.size w w' := by
  have cN : Calls Try.prog 10 #[.int .i64 2] w fun e' w' => ∃ X O, e' = .returned (.tuple #[.pointer (some ⟨X, 0, none⟩), .int .i64 0]) ∧ Dsk w w' X O (DS.new 2) := (d_new (o := w) 2 (by decide) (by decide) (Below.refl _ w)).mono fun e' w' ⟨X, O, h1, h2, _⟩ => ⟨X, O, h1, h2⟩
  have cF : ∀ X O W, Dsk w W X O (DS.new 2) → Calls Try.prog 11 #[.pointer (some ⟨X, 0, none⟩), .agg #[.int .u64 1, .int .i64 0, .int .i64 3]] W fun e' w' => ∃ O', e' = .returned (.int .i64 0) ∧ Dsk w w' X O' (fmtS (DS.new 2) 0 (encS 1 0 3)) := fun X O W h => (wformat_ok (e := 1) (p := 0) (m := 3) h (new_up 2) (by decide) (by decide) (by decide) (by decide) rfl).mono fun e' w' ⟨O', h1, h2, _⟩ => ⟨O', h1, h2⟩
  have cO : ∀ X O W, Dsk w W X O (fmtS (DS.new 2) 0 (encS 1 0 3)) → Calls Try.prog 12 #[.pointer (some ⟨X, 0, none⟩)] W fun e' w' => ∃ Z Y, e' = .returned (.tuple #[.pointer (some ⟨Z, 0, none⟩), .int .i64 0]) ∧ Wit w w' Z Y X O (fmtS (DS.new 2) 0 (encS 1 0 3)) 1 (encS 1 0 3) 1 0 3 := fun X O W h => (wopen_is (e := 1) (p := 0) (m := 3) h rfl rfl (by rw [fmt_last]; decide) (Nat.zero_le _) (by decide) rfl (best_fmt (Fine.new 2 (by decide)) (by decide) (by rw [encS_len]; decide))).mono fun e' w' ⟨Z, Y, h1, h2, _⟩ => ⟨Z, Y, h1, h2⟩
  have cC : ∀ Z Y X O W, Wit w W Z Y X O (fmtS (DS.new 2) 0 (encS 1 0 3)) 1 (encS 1 0 3) 1 0 3 → Calls Try.prog 14 #[.pointer (some ⟨Z, 0, none⟩), .int .u64 1, .agg #[.int .u64 2, .int .i64 1, .int .i64 2]] W fun e' w' => e' = .returned (.tuple #[.agg #[.int .u64 2, .int .i64 1, .int .i64 2], .bool true, .int .i64 0]) ∧ ∃ O' S', Wit w w' Z Y X O' S' 2 (encS 2 1 2) 2 1 2 := fun Z Y X O W h => (cas_ok h 1 2 1 2 (by decide) (by decide) (by decide) (puts_up h (fmt_up (new_up 2) _ _) (by rw [fmt_last]; decide) (Nat.zero_le _) (show 3 ≤ _ by decide) (by decide) 2 1 2)).mono fun e' w' ⟨h1, O', h2, _⟩ => ⟨h1, O', _, h2⟩
  have cD : ∀ Z Y X O S W, Wit w W Z Y X O S 2 (encS 2 1 2) 2 1 2 → Calls Try.prog 14 #[.pointer (some ⟨Z, 0, none⟩), .int .u64 1, .agg #[.int .u64 2, .int .i64 0, .int .i64 1]] W fun e' w' => e' = .returned (.tuple #[.agg #[.int .u64 2, .int .i64 1, .int .i64 2], .bool false, .int .i64 0]) ∧ Below W.heap.size W w' := fun Z Y X O S W h => cas_no h 1 2 0 1 (by decide) (by decide) (by decide)
  have cG : ∀ Z Y X O S W, Wit w W Z Y X O S 2 (encS 2 1 2) 2 1 2 → Calls Try.prog 16 #[.pointer (some ⟨Z, 0, none⟩)] W fun e' w' => e' = .returned (.agg #[.int .u64 2, .int .i64 1, .int .i64 2]) ∧ Below W.heap.size W w' := fun Z Y X O S W h => get_any h
  have cR : ∀ W, Calls Try.prog 18 #[.agg #[.int .u64 2, .int .i64 1, .int .i64 1]] W fun e' w' => e' = .returned (.bool false) ∧ Below W.heap.size W w' := fun W => right_any 2 1 1 W
  go_enter Try.func6, Try.ntmps6
  go_wp2_with (first
    | (go_at_call 10; (with_reducible refine cN.mono ?_); rintro e' w1 ⟨X, O1, rfl, h1⟩)
    | (go_at_call 11; (with_reducible refine (cF _ _ _ h1).mono ?_); rintro e' w2 ⟨O2, rfl, h2⟩)
    | (go_at_call 12; (with_reducible refine (cO _ _ _ h2).mono ?_); rintro e' w3 ⟨Z, Y, rfl, h3⟩)
    | (go_at_call 14; (with_reducible refine (cC _ _ _ _ _ h3).mono ?_); rintro e' w4 ⟨rfl, O4, S4, h4⟩)
    | (refine wpList_store_row rfl 24 (.tmp 6) (.tmp 36) rfl w4.heap.size #[.int .u64 2, .int .i64 1, .int .i64 2] rfl rfl 24 #[.int .u64 0, .int .i64 0, .int .i64 0] (Mem.new w4 _ _) (by kernel_rfl) (by kernel_rfl) (by kernel_rfl) ?_; obtain ⟨w5, e5, h5, m5, b5⟩ := boxW h4 #[.int .u64 2, .int .i64 1, .int .i64 2]; rw [← e5]; clear e5)
    | (go_at_call 14; (with_reducible refine (cD _ _ _ _ _ _ h5).mono ?_); rintro e' w6 ⟨rfl, b6⟩; have h6 := h5.below b6; have m6 := m5.below b6 m5.lt)
    | (refine wpList_store_row rfl 24 (.tmp 9) (.tmp 43) rfl w6.heap.size #[.int .u64 2, .int .i64 1, .int .i64 2] rfl rfl 24 #[.int .u64 0, .int .i64 0, .int .i64 0] (Mem.new w6 _ _) (by kernel_rfl) (by kernel_rfl) (by kernel_rfl) ?_; obtain ⟨w7, e7, H7, m7, b7⟩ := boxW h6 #[.int .u64 2, .int .i64 1, .int .i64 2]; rw [← e7]; clear e7; have k7 := m6.below b7 m6.lt))
  apply calm_tail 32 [.is (.bool true), .is (.bool true), .is (.bool false), .is (.bool true), .is (.bool true), .is (.bool true), .is (.int .i64 0), .is (.int .i64 0), .is (.int .i64 0), .is (.bool true), .is (.bool true), .is (.bool true), .is (.pointer (some ⟨w4.heap.size, 0, none⟩)), .is (.int .u64 2), .is (.bool true), .is (.bool true), .is (.bool true), .is (.pointer (some ⟨w6.heap.size, 1, none⟩)), .is (.int .i64 1), .is (.bool true), .is (.bool true), .is (.bool true), .is (.pointer (some ⟨Z, 0, none⟩)), .is (.agg #[.int .u64 2, .int .i64 1, .int .i64 2]), .is (.agg #[.int .u64 2, .int .i64 1, .int .i64 2]), .is (.bool true), .is (.bool true), .is (.bool true), .is (.agg #[.int .u64 2, .int .i64 1, .int .i64 1]), .is (.bool false), .is (.bool true), .is (.bool true)] [[], [0], [1], [2, 1], [1, 3], [4, 1], [5], [5], [6, 7, 5], [8, 5], [5, 9], [10, 5], [11], [12, 11], [13, 11], [11, 14], [15, 11], [16], [17, 16], [18, 16], [16, 19], [20, 16], [21], [22, 21, 21], [21], [23, 24, 21], [21, 25], [26, 23], [27], [28, 27, 27], [29, 27], [27, 30]] (by kernel_rfl) (by kernel_rfl) (by kernel_rfl) rfl
  intro f a1 ha1
  simp only [List.take_succ_cons, List.take_zero, putL, Act.put, List.setIfInBounds_toArray, List.set_cons_succ, List.set_cons_zero] at ha1
  subst ha1
  refine ⟨?_, ?_⟩
  · refine AllCalm.cons (fun W hB hd => ?_) ?_
    · go_wp2_with (fail)
      exact CalmQ.mk rfl _ rfl (Below.refl _ _) rfl
    refine AllCalm.cons (fun W hB hd => ?_) ?_
    · obtain ⟨h0, -⟩ := hd
      have h0 : f 0 = _ := h0
      rw [h0]
      go_wp2_with (fail)
      exact CalmQ.mk rfl _ rfl (Below.refl _ _) rfl
    refine AllCalm.cons (fun W hB hd => ?_) ?_
    · obtain ⟨h1, -⟩ := hd
      have h1 : f 1 = _ := h1
      rw [h1]
      go_wp2_with (fail)
      exact CalmQ.mk rfl _ rfl (Below.refl _ _) rfl
    refine AllCalm.cons (fun W hB hd => ?_) ?_
    · obtain ⟨h2, h1, -⟩ := hd
      have h2 : f 2 = _ := h2
      have h1 : f 1 = _ := h1
      rw [h2, h1]
      go_wp2_with (fail)
      exact CalmQ.mk rfl _ rfl (Below.refl _ _) rfl
    refine AllCalm.cons (fun W hB hd => ?_) ?_
    · obtain ⟨h1, h3, -⟩ := hd
      have h1 : f 1 = _ := h1
      have h3 : f 3 = _ := h3
      rw [h1, h3]
      go_wp2_with (fail)
      exact CalmQ.mk rfl _ rfl (Below.refl _ _) rfl
    refine AllCalm.cons (fun W hB hd => ?_) ?_
    · obtain ⟨h4, h1, -⟩ := hd
      have h4 : f 4 = _ := h4
      have h1 : f 1 = _ := h1
      rw [h4, h1]
      go_wp2_with (fail)
      exact CalmQ.mk rfl _ rfl (Below.refl _ _) rfl
    refine AllCalm.cons (fun W hB hd => ?_) ?_
    · obtain ⟨h5, -⟩ := hd
      have h5 : f 5 = _ := h5
      rw [h5]
      go_wp2_with (fail)
      exact CalmQ.mk rfl _ rfl (Below.refl _ _) rfl
    refine AllCalm.cons (fun W hB hd => ?_) ?_
    · obtain ⟨h5, -⟩ := hd
      have h5 : f 5 = _ := h5
      rw [h5]
      go_wp2_with (fail)
      exact CalmQ.mk rfl _ rfl (Below.refl _ _) rfl
    refine AllCalm.cons (fun W hB hd => ?_) ?_
    · obtain ⟨h6, h7, h5, -⟩ := hd
      have h6 : f 6 = _ := h6
      have h7 : f 7 = _ := h7
      have h5 : f 5 = _ := h5
      rw [h6, h7, h5]
      go_wp2_with (fail)
      exact CalmQ.mk rfl _ rfl (Below.refl _ _) rfl
    refine AllCalm.cons (fun W hB hd => ?_) ?_
    · obtain ⟨h8, h5, -⟩ := hd
      have h8 : f 8 = _ := h8
      have h5 : f 5 = _ := h5
      rw [h8, h5]
      go_wp2_with (fail)
      exact CalmQ.mk rfl _ rfl (Below.refl _ _) rfl
    refine AllCalm.cons (fun W hB hd => ?_) ?_
    · obtain ⟨h5, h9, -⟩ := hd
      have h5 : f 5 = _ := h5
      have h9 : f 9 = _ := h9
      rw [h5, h9]
      go_wp2_with (fail)
      exact CalmQ.mk rfl _ rfl (Below.refl _ _) rfl
    refine AllCalm.cons (fun W hB hd => ?_) ?_
    · obtain ⟨h10, h5, -⟩ := hd
      have h10 : f 10 = _ := h10
      have h5 : f 5 = _ := h5
      rw [h10, h5]
      go_wp2_with (fail)
      exact CalmQ.mk rfl _ rfl (Below.refl _ _) rfl
    refine AllCalm.cons (fun W hB hd => ?_) ?_
    · obtain ⟨h11, -⟩ := hd
      have h11 : f 11 = _ := h11
      rw [h11]
      go_wp2_with (fail)
      exact CalmQ.mk rfl _ rfl (Below.refl _ _) rfl
    refine AllCalm.cons (fun W hB hd => ?_) ?_
    · obtain ⟨h12, h11, -⟩ := hd
      have h12 : f 12 = _ := h12
      have h11 : f 11 = _ := h11
      rw [h12, h11]
      have q0 := (k7.below hB k7.lt).cell 0
      go_wp2_with (fail)
      exact CalmQ.mk rfl _ rfl (Below.refl _ _) rfl
    refine AllCalm.cons (fun W hB hd => ?_) ?_
    · obtain ⟨h13, h11, -⟩ := hd
      have h13 : f 13 = _ := h13
      have h11 : f 11 = _ := h11
      rw [h13, h11]
      go_wp2_with (fail)
      exact CalmQ.mk rfl _ rfl (Below.refl _ _) rfl
    refine AllCalm.cons (fun W hB hd => ?_) ?_
    · obtain ⟨h11, h14, -⟩ := hd
      have h11 : f 11 = _ := h11
      have h14 : f 14 = _ := h14
      rw [h11, h14]
      go_wp2_with (fail)
      exact CalmQ.mk rfl _ rfl (Below.refl _ _) rfl
    refine AllCalm.cons (fun W hB hd => ?_) ?_
    · obtain ⟨h15, h11, -⟩ := hd
      have h15 : f 15 = _ := h15
      have h11 : f 11 = _ := h11
      rw [h15, h11]
      go_wp2_with (fail)
      exact CalmQ.mk rfl _ rfl (Below.refl _ _) rfl
    refine AllCalm.cons (fun W hB hd => ?_) ?_
    · obtain ⟨h16, -⟩ := hd
      have h16 : f 16 = _ := h16
      rw [h16]
      go_wp2_with (fail)
      exact CalmQ.mk rfl _ rfl (Below.refl _ _) rfl
    refine AllCalm.cons (fun W hB hd => ?_) ?_
    · obtain ⟨h17, h16, -⟩ := hd
      have h17 : f 17 = _ := h17
      have h16 : f 16 = _ := h16
      rw [h17, h16]
      have q1 := (m7.below hB m7.lt).cell 1
      go_wp2_with (fail)
      exact CalmQ.mk rfl _ rfl (Below.refl _ _) rfl
    refine AllCalm.cons (fun W hB hd => ?_) ?_
    · obtain ⟨h18, h16, -⟩ := hd
      have h18 : f 18 = _ := h18
      have h16 : f 16 = _ := h16
      rw [h18, h16]
      go_wp2_with (fail)
      exact CalmQ.mk rfl _ rfl (Below.refl _ _) rfl
    refine AllCalm.cons (fun W hB hd => ?_) ?_
    · obtain ⟨h16, h19, -⟩ := hd
      have h16 : f 16 = _ := h16
      have h19 : f 19 = _ := h19
      rw [h16, h19]
      go_wp2_with (fail)
      exact CalmQ.mk rfl _ rfl (Below.refl _ _) rfl
    refine AllCalm.cons (fun W hB hd => ?_) ?_
    · obtain ⟨h20, h16, -⟩ := hd
      have h20 : f 20 = _ := h20
      have h16 : f 16 = _ := h16
      rw [h20, h16]
      go_wp2_with (fail)
      exact CalmQ.mk rfl _ rfl (Below.refl _ _) rfl
    refine AllCalm.cons (fun W hB hd => ?_) ?_
    · obtain ⟨h21, -⟩ := hd
      have h21 : f 21 = _ := h21
      rw [h21]
      go_wp2_with (fail)
      exact CalmQ.mk rfl _ rfl (Below.refl _ _) rfl
    refine AllCalm.cons (fun W hB hd => ?_) ?_
    · obtain ⟨h22, h21, -, -⟩ := hd
      have h22 : f 22 = _ := h22
      have h21 : f 21 = _ := h21
      rw [h22, h21]
      go_wp2_with ((go_at_call 16; (with_reducible refine (cG _ _ _ _ _ _ (H7.below hB)).mono ?_); rintro e' w8 ⟨rfl, b8⟩))
      exact CalmQ.mk rfl _ rfl b8 rfl
    refine AllCalm.cons (fun W hB hd => ?_) ?_
    · obtain ⟨h21, -⟩ := hd
      have h21 : f 21 = _ := h21
      rw [h21]
      have k8 := k7.below hB k7.lt; have q0 := k8.cell 0; have q1 := k8.cell 1; have q2 := k8.cell 2
      go_wp2_with (fail)
      exact CalmQ.mk rfl _ rfl (Below.refl _ _) rfl
    refine AllCalm.cons (fun W hB hd => ?_) ?_
    · obtain ⟨h23, h24, h21, -⟩ := hd
      have h23 : f 23 = _ := h23
      have h24 : f 24 = _ := h24
      have h21 : f 21 = _ := h21
      rw [h23, h24, h21]
      go_wp2_with (fail)
      exact CalmQ.mk rfl _ rfl (Below.refl _ _) rfl
    refine AllCalm.cons (fun W hB hd => ?_) ?_
    · obtain ⟨h21, h25, -⟩ := hd
      have h21 : f 21 = _ := h21
      have h25 : f 25 = _ := h25
      rw [h21, h25]
      go_wp2_with (fail)
      exact CalmQ.mk rfl _ rfl (Below.refl _ _) rfl
    refine AllCalm.cons (fun W hB hd => ?_) ?_
    · obtain ⟨h26, h23, -⟩ := hd
      have h26 : f 26 = _ := h26
      have h23 : f 23 = _ := h23
      rw [h26, h23]
      go_wp2_with (fail)
      exact CalmQ.mk rfl _ rfl (Below.refl _ _) rfl
    refine AllCalm.cons (fun W hB hd => ?_) ?_
    · obtain ⟨h27, -⟩ := hd
      have h27 : f 27 = _ := h27
      rw [h27]
      go_wp2_with (fail)
      exact CalmQ.mk rfl _ rfl (Below.refl _ _) rfl
    refine AllCalm.cons (fun W hB hd => ?_) ?_
    · obtain ⟨h28, h27, -, -⟩ := hd
      have h28 : f 28 = _ := h28
      have h27 : f 27 = _ := h27
      rw [h28, h27]
      go_wp2_with ((go_at_call 18; (with_reducible refine (cR _).mono ?_); rintro e' w9 ⟨rfl, b9⟩))
      exact CalmQ.mk rfl _ rfl b9 rfl
    refine AllCalm.cons (fun W hB hd => ?_) ?_
    · obtain ⟨h29, h27, -⟩ := hd
      have h29 : f 29 = _ := h29
      have h27 : f 27 = _ := h27
      rw [h29, h27]
      go_wp2_with (fail)
      exact CalmQ.mk rfl _ rfl (Below.refl _ _) rfl
    refine AllCalm.cons (fun W hB hd => ?_) ?_
    · obtain ⟨h27, h30, -⟩ := hd
      have h27 : f 27 = _ := h27
      have h30 : f 30 = _ := h30
      rw [h27, h30]
      go_wp2_with (fail)
      exact CalmQ.mk rfl _ rfl (Below.refl _ _) rfl
    exact AllCalm.nil
  · intro W hB hT
    obtain ⟨h0, h1, h2, h3, h4, h5, h6, h7, h8, h9, h10, h11, h12, h13, h14, h15, h16, h17, h18, h19, h20, h21, h22, h23, h24, h25, h26, h27, h28, h29, h30, h31, -⟩ := hT
    have h0 : f 0 = _ := h0
    have h1 : f 1 = _ := h1
    have h2 : f 2 = _ := h2
    have h3 : f 3 = _ := h3
    have h4 : f 4 = _ := h4
    have h5 : f 5 = _ := h5
    have h6 : f 6 = _ := h6
    have h7 : f 7 = _ := h7
    have h8 : f 8 = _ := h8
    have h9 : f 9 = _ := h9
    have h10 : f 10 = _ := h10
    have h11 : f 11 = _ := h11
    have h12 : f 12 = _ := h12
    have h13 : f 13 = _ := h13
    have h14 : f 14 = _ := h14
    have h15 : f 15 = _ := h15
    have h16 : f 16 = _ := h16
    have h17 : f 17 = _ := h17
    have h18 : f 18 = _ := h18
    have h19 : f 19 = _ := h19
    have h20 : f 20 = _ := h20
    have h21 : f 21 = _ := h21
    have h22 : f 22 = _ := h22
    have h23 : f 23 = _ := h23
    have h24 : f 24 = _ := h24
    have h25 : f 25 = _ := h25
    have h26 : f 26 = _ := h26
    have h27 : f 27 = _ := h27
    have h28 : f 28 = _ := h28
    have h29 : f 29 = _ := h29
    have h30 : f 30 = _ := h30
    have h31 : f 31 = _ := h31
    rw [h0, h1, h2, h3, h4, h5, h6, h7, h8, h9, h10, h11, h12, h13, h14, h15, h16, h17, h18, h19, h20, h21, h22, h23, h24, h25, h26, h27, h28, h29, h30, h31]
    clear h0 h1 h2 h3 h4 h5 h6 h7 h8 h9 h10 h11 h12 h13 h14 h15 h16 h17 h18 h19 h20 h21 h22 h23 h24 h25 h26 h27 h28 h29 h30 h31
    simp only [List.drop_succ_cons, List.drop_zero]
    go_wp2
    go_ret
    exact ⟨rfl, (H7.below hB).dsk.bl⟩
end Wt
end Go.Proofs.Ytccknplmcnahbaa
