/- The document's second telling of two keys (gemelref6): Decode. -/
import Derived.Test.YteeeioafhdkagaaPrB
namespace Go.Proofs.Yteeeioafhdkagaa
open Go.ChangeShapes Go.WideShapes Go.ChangeAt Go.RowKit
set_option linter.unusedVariables false
theorem rget_b (v : Value) (l : List UInt8) (T N : Int) (t n : Nat) (hT : T = t) (hN : N = n) (w : World) (hv : Sl w w.heap.size v l.length (bs l)) (hl : l.length ≤ 140737488355328) (ht : t ≤ 140737488355328) (hn : 1 ≤ n ∧ n ≤ 8) (h : t + n ≤ l.length) :
    Calls Try.prog 38 #[v, .int .i64 T, .int .i64 N] w fun e w' => e = .returned (.tuple #[.int .u64 (beVal ((l.drop t).take n)), .bool true]) ∧ w = w' := by
  subst hT; subst hN
  have h1 := rget_any v l t n w hv hl (by omega) (by omega) (by omega) (by omega)
  have e : getS l t n = (beVal ((l.drop t).take n), true) := by unfold getS; rw [if_pos (by omega)]; simp
  rw [e] at h1
  exact h1
theorem nought_val {r : List UInt8} (h : r.length = 8) : nought r = decide (beVal r = 0) := by
  by_cases h0 : beVal r = 0
  · have e := be_beVal h
    rw [h0] at e
    rw [decide_eq_true h0, ← e]
    exact nought_be 8
  · rw [decide_eq_false h0]
    cases hn : nought r with
    | false => rfl
    | true =>
      exfalso
      apply h0
      have e := nought_back hn h
      rw [← e]
      exact beVal_be8 (by omega)
theorem rDecode_any (v : Value) (l : List UInt8) (w : World) (hv : Sl w w.heap.size v l.length (bs l)) (hl : l.length ≤ 100000) :
    Calls Try.prog 16 #[v] w fun e w' => e = .returned (.tuple #[.int .u64 (prDec l).1, .int .u64 (prDec l).2.1, .bool (prDec l).2.2]) ∧ w = w' := by
  obtain ⟨A, c, rfl, hc1, hc2⟩ := hv.form
  unfold maxLen at hc2
  by_cases h24 : l.length = 24
  · have g1 := rget_b _ l 0 8 0 8 rfl rfl _ hv (by omega) (by omega) (by omega) (by omega)
    have g2 := rget_b _ l 8 8 8 8 rfl rfl _ hv (by omega) (by omega) (by omega) (by omega)
    have g3 := rget_b _ l 16 8 16 8 rfl rfl _ hv (by omega) (by omega) (by omega) (by omega)
    have hr8 : (l.drop 16).length = 8 := by rw [List.length_drop]; omega
    rw [List.take_of_length_le (l := l.drop 16) (by omega)] at g3
    rw [List.drop_zero] at g1
    have hD : prDec l = if beVal (l.drop 16) = 0 then (beVal (l.take 8), beVal ((l.drop 8).take 8), true) else (0, 0, false) := by
      unfold prDec
      rw [nought_val hr8]
      by_cases h0 : beVal (l.drop 16) = 0
      · rw [if_pos ⟨h24, decide_eq_true h0⟩, if_pos h0]
      · rw [if_neg (fun h => h0 (of_decide_eq_true h.2)), if_neg h0]
    generalize beVal (l.take 8) = G at *
    generalize beVal ((l.drop 8).take 8) = N at *
    generalize beVal (l.drop 16) = Z at *
    rw [h24] at g1 g2 g3 ⊢
    clear hv hc1 hl h24 hr8
    by_cases hz : Z = 0
    · subst hz
      have HD := Lib.hid hD
      clear hD
      go_enter Try.func16, Try.ntmps16
      go_wp2_with (first
        | (go_at_call 38; with_reducible refine g1.mono ?_; rintro e w' ⟨rfl, rfl⟩)
        | (go_at_call 38; with_reducible refine g2.mono ?_; rintro e w' ⟨rfl, rfl⟩)
        | (go_at_call 38; with_reducible refine g3.mono ?_; rintro e w' ⟨rfl, rfl⟩))
      exact bodyPost_ret (v := .tuple #[.int .u64 (G : Nat), .int .u64 (N : Nat), .bool true]) (by simp [results, Try.results16, go_sem]) rfl ⟨by rw [HD.out]; rfl, rfl⟩
    · have hz' : ¬ (Z : Int) = 0 := by omega
      have HD := Lib.hid (hD.trans (if_neg hz))
      clear hD
      go_enter Try.func16, Try.ntmps16
      go_wp2_with (first
        | (go_at_call 38; with_reducible refine g1.mono ?_; rintro e w' ⟨rfl, rfl⟩)
        | (go_at_call 38; with_reducible refine g2.mono ?_; rintro e w' ⟨rfl, rfl⟩)
        | (go_at_call 38; with_reducible refine g3.mono ?_; rintro e w' ⟨rfl, rfl⟩))
      exact bodyPost_ret (v := .tuple #[.int .u64 (0 : Nat), .int .u64 (0 : Nat), .bool false]) (by simp [results, Try.results16, go_sem]) rfl ⟨by rw [HD.out], rfl⟩
  · have hD : Hid (prDec l = (0, 0, false)) := Lib.hid (by unfold prDec; rw [if_neg (fun h => h24 h.1)])
    have h24' : ¬ (l.length : Int) = 24 := by omega
    go_enter Try.func16, Try.ntmps16
    go_wp2
    exact bodyPost_ret (v := .tuple #[.int .u64 (0 : Nat), .int .u64 (0 : Nat), .bool false]) (by simp [results, Try.results16, go_sem]) rfl ⟨by rw [hD.out], rfl⟩
end Go.Proofs.Yteeeioafhdkagaa
