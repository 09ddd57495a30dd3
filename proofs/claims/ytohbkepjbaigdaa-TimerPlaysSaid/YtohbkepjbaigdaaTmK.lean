/- gemellaw10's known; rows of ids. -/
import Derived.Test.YtohbkepjbaigdaaTm9
namespace Go.Proofs.Ytohbkepjbaigdaa
open Go.ChangeShapes Go.WideShapes Go.ChangeAt Go.RowKit Go.Lib
set_option linter.unusedVariables false
theorem own : ownKnob Try.prog.godebug = none := by kernel_rfl
theorem laidOut : laidOutB Try.prog = true := by kernel_rfl
theorem no_ids {I : List Int} (h : ∀ i, ¬ i ∈ I) : I = [] := by
  cases I with
  | nil => rfl
  | cons a I => exact absurd (List.mem_cons_self ..) (h a)
theorem one_id {I : List Int} {a : Int} (hs : I.Pairwise (· < ·)) (h : ∀ i, i ∈ I ↔ i = a) : I = [a] := by
  match I, hs, h with
  | [], _, h => exact absurd ((h a).2 rfl) (by simp)
  | [b], _, h => rw [(h b).1 (by simp)]
  | b :: c :: I, hs, h =>
    have h1 := (h b).1 (by simp)
    have h2 := (h c).1 (by simp)
    simp at hs
    omega
theorem ints_len (I : List Int) : (ints I).length = I.length := by simp [ints]
/-- The cells of a row of ids. -/
theorem ids_at {w : World} {B c : Nat} {A : Option Addr} {I : List Int} (ho : w.ownsRow B 3 1 (.slice A I.length c) I.length (ints I)) {i : Nat} (hi : i < I.length) : ∃ g, A = some ⟨g, 0, none⟩ ∧ B ≤ g ∧ g < w.heap.size ∧ w.cell? ⟨g, i, none⟩ = some (.int .i64 I[i]) := by
  rcases ho.2 with ⟨hv, h0⟩ | ⟨g, cap, cur, hv, hBg, hg, hnc, hcm, hcs, htk⟩
  · omega
  · have ho' := ho
    simp only [Value.slice.injEq] at hv
    obtain ⟨rfl, _, rfl⟩ := hv
    refine ⟨g, rfl, hBg, (Array.getElem?_eq_some_iff.1 hg).1, ?_⟩
    rw [ho'.cellAt _ (by omega)]
    simp [ints, hi]
theorem ticked {o w : World} {X : Nat} {S : List One} {now : Int} (h : TmS o w X S now) (hn9 : now < 1000000) : Calls Try.prog 15 #[.pointer (some ⟨X, 0, none⟩)] w fun e w' => ∃ A c I, e = .returned (.slice A I.length c) ∧ Hid (I.Pairwise (· < ·) ∧ (∀ i, i ∈ I ↔ (i, now + 1) ∈ S) ∧ I.length + (gone S (now + 1)).length = S.length) ∧ w'.ownsRow w.heap.size 3 1 (.slice A I.length c) I.length (ints I) ∧ I.length ≤ 256 ∧ TmS o w' X (gone S (now + 1)) (now + 1) ∧ Fr w w' := by
  refine (tick_s h hn9).mono ?_
  rintro e w' ⟨u, I, rfl, h1, h2, h3, ho, h4, h5, h6⟩
  obtain ⟨A, c, rfl, _, _⟩ := own_form ho
  exact ⟨A, c, I, rfl, Lib.hid ⟨h1, h2, h3⟩, ho, h4, h5, h6⟩
set_option maxHeartbeats 1000000 in
theorem known_any (w : World) : Calls Try.prog 8 #[] w fun e w' => e = .returned (.bool true) ∧ Below w.heap.size w w' := by
  have cNew := new_s (o := w) (w := w) (Below.refl _ _)
  have cSet : ∀ W X, TmS w W X [] 0 → Calls Try.prog 10 #[.pointer (some ⟨X, 0, none⟩), .int .i64 5, .int .i64 2] W fun e w' => e = .returned (.int .i64 0) ∧ TmS w w' X [(5, 2)] 0 := by
    intro W X h
    refine (set_s h 5 2).mono ?_
    rintro e w' ⟨rfl, h1, _⟩
    exact ⟨rfl, h1⟩
  have cLeft : ∀ W X, TmS w W X [(5, 2)] 0 → Calls Try.prog 17 #[.pointer (some ⟨X, 0, none⟩), .int .i64 5] W fun e w' => e = .returned (.tuple #[.int .i64 2, .bool true]) ∧ TmS w w' X [(5, 2)] 0 := by
    intro W X h
    refine (left_ok_s h (5, 2) (by simp)).mono ?_
    rintro e w' ⟨rfl, hb⟩
    exact ⟨rfl, h.below hb⟩
  have cTick1 : ∀ W X, TmS w W X [(5, 2)] 0 → Calls Try.prog 15 #[.pointer (some ⟨X, 0, none⟩)] W fun e w' => ∃ A c, e = .returned (.slice A 0 c) ∧ TmS w w' X [(5, 2)] 1 := by
    intro W X h
    refine (ticked h (by omega)).mono ?_
    rintro e w' ⟨A, c, I, rfl, HI, _, _, h2, _⟩
    obtain rfl := no_ids (I := I) fun i hi => by
      have := (HI.out.2.1 i).1 hi
      simp at this
    exact ⟨A, c, rfl, h2⟩
  have cTick2 : ∀ W X, TmS w W X [(5, 2)] 1 → Calls Try.prog 15 #[.pointer (some ⟨X, 0, none⟩)] W fun e w' => ∃ g c, e = .returned (.slice (some ⟨g, 0, none⟩) 1 c) ∧ w'.cell? ⟨g, 0, none⟩ = some (.int .i64 5) ∧ TmS w w' X [] 2 := by
    intro W X h
    refine (ticked h (by omega)).mono ?_
    rintro e w' ⟨A, c, I, rfl, HI, ho, _, h2, _⟩
    obtain rfl := one_id (a := 5) HI.out.1 fun i => by
      rw [HI.out.2.1 i]
      simp
    obtain ⟨g, rfl, _, _, hc⟩ := ids_at ho (i := 0) (by simp)
    exact ⟨g, c, rfl, hc, h2⟩
  go_enter Try.func8, Try.ntmps8
  go_wp2_with (first
    | (go_at_call 9; (with_reducible refine cNew.mono ?_); rintro e w1 ⟨rfl, h1, hb1⟩)
    | (go_at_call 10; (with_reducible refine (cSet _ _ h1).mono ?_); rintro e w2 ⟨rfl, h2⟩)
    | (go_at_call 17; (with_reducible refine (cLeft _ _ h2).mono ?_); rintro e w3 ⟨rfl, h3⟩)
    | (go_at_call 15; (with_reducible refine (cTick1 _ _ h3).mono ?_); rintro e w4 ⟨A4, c4, rfl, h4⟩)
    | (go_at_call 15; (with_reducible refine (cTick2 _ _ h4).mono ?_); rintro e w5 ⟨g5, c5, rfl, x5, h5⟩)
    | (go_at_call 21; (with_reducible refine (now_s h5).mono ?_); rintro e w6 ⟨rfl, rfl⟩)
    | (go_at_call 22; (with_reducible refine (len_s h5).mono ?_); rintro e w7 ⟨rfl, rfl⟩))
  go_ret
  exact ⟨rfl, h5.bl⟩
end Go.Proofs.Ytohbkepjbaigdaa
