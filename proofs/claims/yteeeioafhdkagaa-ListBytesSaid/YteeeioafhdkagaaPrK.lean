/- Package gemellaw6: bad, known. -/
import Derived.Test.YteeeioafhdkagaaPr4
import Derived.Deep.QuietTactic
import Derived.BigQuiet
namespace Go.Proofs.Yteeeioafhdkagaa
open Go.ChangeShapes Go.WideShapes Go.ChangeAt Go.RowKit
set_option linter.unusedVariables false
set_option maxHeartbeats 1000000 in
theorem bad_any (w : World) :
    Calls Try.prog 36 #[] w fun e w' => e = .returned (.tuple #[.int .u64 0, .bool true]) ∧ Below w.heap.size w w' := by
  have c1 : Calls Try.prog 15 #[.slice none 0 0] w fun e w' => e = .returned (.tuple #[.int .u64 0, .int .u64 0, .agg #[.int .i64 2, .int .i64 5, .int .i64 9728, .slice none 0 0, .int .i64 0], .bool false]) ∧ Below w.heap.size w w' := Decode_any (.slice none 0 0) [] w Sl.nil_ (by simp)
  go_enter Try.func36, Try.ntmps36
  go_wp2_with (go_at_call 15; with_reducible refine c1.mono ?_; rintro e w1 ⟨rfl, hb1⟩)
  go_quiet (fail)
  go_wp2
  exact bodyPost_ret (v := .tuple #[.int .u64 0, .bool true]) (by simp [results, Try.results36, go_sem]) rfl ⟨rfl, below_drewN (hb1.alloc hb1.size _) _⟩
set_option maxHeartbeats 1000000 in
theorem known_any (w : World) :
    Calls Try.prog 14 #[] w fun e w' => e = .returned (.bool true) ∧ Below w.heap.size w w' := by
  have c1 : Calls Try.prog 21 #[.int .u64 3, .int .u64 4] w fun e w' => ∃ v', e = .returned v' ∧ Sl w' w'.heap.size v' (prEnc 3 4).length (bs (prEnc 3 4)) ∧ Below w.heap.size w w' := Encode_any 3 4 w (by omega) (by omega)
  have c2 : ∀ W v, Sl W W.heap.size v (prEnc 3 4).length (bs (prEnc 3 4)) → Calls Try.prog 15 #[v] W fun e w' => e = .returned (.tuple #[.int .u64 3, .int .u64 4, .agg #[.int .i64 0, .int .i64 0, .int .i64 0, .slice none 0 0, .int .i64 0], .bool true]) ∧ Below W.heap.size W w' := by
    intro W v hs
    have h := Decode_any v (prEnc 3 4) W hs (by rw [prEnc_len]; omega)
    rw [prDec_enc (by omega) (by omega)] at h
    exact h
  have c3 : ∀ (W : World) (o : Obj), Calls Try.prog 22 #[.int .u32 7, .slice (some ⟨W.heap.size + 1, 0, none⟩) 2 2] ((W.alloc o).alloc (.cells #[.int .u64 1, .int .u64 2] 25)) fun e w' => ∃ v', e = .returned v' ∧ Sl w' w'.heap.size v' (keysS 7 [1, 2]).length (bs (keysS 7 [1, 2])) ∧ Below ((W.alloc o).alloc (.cells #[.int .u64 1, .int .u64 2] 25)).heap.size ((W.alloc o).alloc (.cells #[.int .u64 1, .int .u64 2] 25)) w' := by
    intro W o
    have h := Keys_any16 7 _ [1, 2] _ (by omega) (Sl.fresh (W.alloc o) #[.int .u64 1, .int .u64 2] 25 (n := 2) rfl (by unfold maxLen; omega)) (by simp) (by simp)
    rw [show (W.alloc o).heap.size = W.heap.size + 1 by simp] at h
    exact h
  have c4 : ∀ W v, Sl W W.heap.size v (keysS 7 [1, 2]).length (bs (keysS 7 [1, 2])) → Calls Try.prog 17 #[v] W fun e w' => ∃ A c, e = .returned (.tuple #[.int .u32 7, .slice A 2 c, .int .i64 0]) ∧ Below W.heap.size W w' := by
    intro W v hs
    refine (ParseKeys_any v _ W hs (by rw [keysS_len]; simp)).mono ?_
    rintro e w' ⟨g, vr, err, rfl, rfl, h1, _, hb⟩
    have e0 : pkE (keysS 7 [1, 2]) = 0 := by decide +kernel
    obtain ⟨rfl, hs2⟩ := h1 e0
    have e1 : cutK ((keysS 7 [1, 2]).drop 8) = [1, 2] := by decide +kernel
    have e2 : beVal ((keysS 7 [1, 2]).take 4) = 7 := by decide +kernel
    rw [e1] at hs2
    obtain ⟨A, c, rfl, _, _⟩ := hs2.form
    exact ⟨A, c, by rw [e0, e2]; rfl, hb⟩
  have c5 : ∀ W, Calls Try.prog 23 #[.int .u32 7, .int .u64 9, .int .i64 3] W fun e w' => ∃ v', e = .returned v' ∧ Sl w' w'.heap.size v' (holderS 7 9 3).length (bs (holderS 7 9 3)) ∧ Below W.heap.size W w' := fun W => Holder_any 7 9 3 W (by omega) (by omega)
  have c6 : ∀ W v, Sl W W.heap.size v (holderS 7 9 3).length (bs (holderS 7 9 3)) → Calls Try.prog 19 #[v] W fun e w' => e = .returned (.tuple #[.int .u32 7, .int .u64 9, .int .i64 3, .int .i64 0]) ∧ Below W.heap.size W w' := by
    intro W v hs
    have h := ParseHolder_any v _ W hs (by rw [holderS_len]; simp)
    have e0 : phS (holderS 7 9 3) = (7, 9, 3, 0) := by decide +kernel
    rw [e0] at h
    exact h
  go_enter Try.func14, Try.ntmps14
  go_wp2_with (first
    | (go_at_call 21; with_reducible refine c1.mono ?_; rintro e w1 ⟨v1, rfl, hs1, hb1⟩)
    | (go_at_call 15; with_reducible refine (c2 _ _ hs1).mono ?_; rintro e w2 ⟨rfl, hb2⟩)
    | (go_at_call 22; with_reducible refine (c3 _ _).mono ?_; rintro e w3 ⟨v3, rfl, hs3, hb3⟩)
    | (go_at_call 17; with_reducible refine (c4 _ _ hs3).mono ?_; rintro e w4 ⟨A4, n4, rfl, hb4⟩)
    | (go_at_call 23; with_reducible refine (c5 _).mono ?_; rintro e w5 ⟨v5, rfl, hs5, hb5⟩)
    | (go_at_call 19; with_reducible refine (c6 _ _ hs5).mono ?_; rintro e w6 ⟨rfl, hb6⟩)
    | (go_at_call 36; with_reducible refine (bad_any _).mono ?_; rintro e w7 ⟨rfl, hb7⟩))
  have hb12 := bchain hb1 hb2
  have hA := hb12.alloc hb12.size (.cells #[.int .i64 0, .int .i64 0, .int .i64 0, .slice none 0 0, .int .i64 0] 35)
  have hB := hA.alloc hA.size (.cells #[.int .u64 1, .int .u64 2] 25)
  go_ret
  exact ⟨rfl, bchain (bchain (bchain (bchain (bchain hB hb3) hb4) hb5) hb6) hb7⟩
end Go.Proofs.Yteeeioafhdkagaa
