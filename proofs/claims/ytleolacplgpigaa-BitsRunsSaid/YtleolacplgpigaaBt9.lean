/- Package bits: known: contract. -/
import Derived.Test.YtleolacplgpigaaBt8
namespace Go.Proofs.Ytleolacplgpigaa
open Go.ChangeShapes Go.WideShapes Go.ChangeAt Go.RowKit Go.Lib
set_option linter.unusedVariables false
theorem own_some {w : World} {base e sz n : Nat} {v : Value} {xs : List Value} (h : w.ownsRow base e sz v n xs) (hn : 0 < n) : ∃ g c, v = .slice (some ⟨g, 0, none⟩) n c ∧ base ≤ g ∧ g < w.heap.size := by
  rcases h.2 with ⟨rfl, h0⟩ | ⟨g, cap, cur, rfl, hb, hg, _⟩
  · omega
  · exact ⟨g, cap, rfl, hb, (Array.getElem?_eq_some_iff.1 hg).1⟩
/-- The rows of 28, 0: one. -/
theorem runs28 {t : Nat} {R : List (Nat × Nat)} (h : RunsOf [28, 0] t R) (h2 : ∀ j, t ≤ j → j < 16 → bit [28, 0] j = false) : R = [(2, 3)] := by
  have hd := h.done h2
  have hs : (R.map (·.2)).sum = 3 := by rw [← hd.1]; decide +kernel
  have hb : ∀ j, bit [28, 0] j = true → 2 ≤ j ∧ j < 5 := by
    intro j hj
    have hj16 : j < 16 := by
      rcases Nat.lt_or_ge j 16 with h | h
      · exact h
      · rw [bit_far (by simpa using h)] at hj; cases hj
    revert hj
    have key : ∀ j : Fin 16, bit [28, 0] j.val = true → 2 ≤ j.val ∧ j.val < 5 := by decide +kernel
    exact key ⟨j, hj16⟩
  have hin : ∀ r ∈ R, 1 ≤ r.2 ∧ 2 ≤ r.1 ∧ r.1 + r.2 ≤ 5 := by
    intro r hr
    have h1 := (h.each r hr).1
    have e1 := hb r.1 ((hd.2 _).2 ⟨r, hr, by omega, by omega⟩)
    have e2 := hb (r.1 + r.2 - 1) ((hd.2 _).2 ⟨r, hr, by omega, by omega⟩)
    omega
  have hap := h.apart
  match R, hs, hin, hap with
  | [], hs, _, _ => simp at hs
  | [r], hs, hin, _ =>
    have := hin r (by simp)
    simp at hs
    obtain ⟨a, b⟩ := r
    simp only at *
    subst hs
    obtain rfl : a = 2 := by omega
    rfl
  | [r, s], hs, hin, hap =>
    have h1 := hin r (by simp)
    have h3 := hin s (by simp)
    simp at hs hap
    omega
  | r :: s :: q :: rest, hs, hin, hap =>
    have h1 := hin r (by simp)
    have h3 := hin s (by simp)
    have h4 := hin q (by simp)
    simp at hap
    omega
theorem set28 {l' : List UInt8} (hl : l'.length = 2) (h : ∀ j, bit l' j = if 2 ≤ j ∧ j < 2 + 3 then true else bit [0, 0] j) : l' = [28, 0] := by
  refine rows_same (by simpa using hl) fun j => ?_
  rcases Nat.lt_or_ge j 16 with hj | hj
  · rw [h]
    have key : ∀ j : Fin 16, (if 2 ≤ j.val ∧ j.val < 2 + 3 then true else bit [0, 0] j.val) = bit [28, 0] j.val := by decide +kernel
    exact key ⟨j, hj⟩
  · rw [bit_far (by omega), bit_far (by simpa using hj)]
theorem unset20 {l' : List UInt8} (hl : l'.length = 2) (h : ∀ j, bit l' j = if 3 ≤ j ∧ j < 3 + 1 then false else bit [28, 0] j) : l' = [20, 0] := by
  refine rows_same (by simpa using hl) fun j => ?_
  rcases Nat.lt_or_ge j 16 with hj | hj
  · rw [h]
    have key : ∀ j : Fin 16, (if 3 ≤ j.val ∧ j.val < 3 + 1 then false else bit [28, 0] j.val) = bit [20, 0] j.val := by decide +kernel
    exact key ⟨j, hj⟩
  · rw [bit_far (by omega), bit_far (by simpa using hj)]
theorem known_any (w : World) : Calls Try.prog 4 #[] w fun e w' => e = .returned (.bool true) ∧ Below w.heap.size w w' := by
  have cNew : Calls Try.prog 6 #[.int .i64 10] w fun e w' => ∃ g c, e = .returned (.slice (some ⟨g, 0, none⟩) 2 c) ∧ w.heap.size ≤ g ∧ w'.ownsRow w.heap.size 5 1 (.slice (some ⟨g, 0, none⟩) 2 c) 2 (bs [0, 0]) ∧ Below w.heap.size w w' := by
    refine (new_any 10 (by omega) (by omega) w).mono ?_
    rintro e w' ⟨v, rfl, ho, hb⟩
    obtain ⟨g, c, rfl, hg, _⟩ := own_some ho (by decide)
    exact ⟨g, c, rfl, hg, ho, hb⟩
  have cSet : ∀ g c w1, w.heap.size ≤ g → w1.ownsRow w.heap.size 5 1 (.slice (some ⟨g, 0, none⟩) 2 c) 2 (bs [0, 0]) → Below w.heap.size w w1 →
      Calls Try.prog 7 #[.slice (some ⟨g, 0, none⟩) 2 c, .int .i64 2, .int .i64 3] w1 fun e w' => e = .returned (.int .i64 3) ∧ w'.ownsRow w.heap.size 5 1 (.slice (some ⟨g, 0, none⟩) 2 c) 2 (bs [28, 0]) ∧ Below w.heap.size w w' := by
    intro g c w1 hg ho hb
    refine (set_any w.heap.size g c [0, 0] 2 3 w w1 (by simp) hb.size (by simp) (by simp) ho hg hb).mono ?_
    rintro e w' ⟨rfl, l', hl, hbt, ho', hb'⟩
    obtain rfl := set28 hl hbt
    exact ⟨rfl, ho', hb'⟩
  have cNext : ∀ v w1, Sl w1 w1.heap.size v 2 (bs [28, 0]) → Calls Try.prog 9 #[v, .int .i64 0, .bool true] w1 fun e w' => e = .returned (.tuple #[.int .i64 2, .bool true]) ∧ w1 = w' :=
    fun v w1 hd => next_ok v [28, 0] 0 2 true w1 (by simp) hd (by omega) (by simp) (by decide +kernel) (by
      intro j _ hj
      have key : ∀ j : Fin 2, bit [28, 0] j.val = !true := by decide +kernel
      exact key ⟨j, hj⟩)
  have cRuns : ∀ v w1, Sl w1 w1.heap.size v 2 (bs [28, 0]) → Calls Try.prog 5 #[v] w1 fun e w' => ∃ g c, e = .returned (.slice (some ⟨g, 0, none⟩) 1 c) ∧ w1.heap.size ≤ g ∧ g < w'.heap.size ∧ w'.cell? ⟨g, 0, none⟩ = some (.int .i64 2) ∧ w'.cell? ⟨g, 1, none⟩ = some (.int .i64 3) ∧ Below w1.heap.size w1 w' := by
    intro v w1 hd
    refine (runs_any v [28, 0] w1 (by simp) hd).mono ?_
    rintro e w' ⟨u, R, t, rfl, hR, hz, ho, _, hb⟩
    obtain rfl := runs28 hR hz
    obtain ⟨g, c, rfl, hg, hgl⟩ := own_some ho (by decide)
    refine ⟨g, c, rfl, hg, hgl, ?_, ?_, hb⟩
    · rw [ho.cellAt _ (by decide)]; rfl
    · rw [ho.cellAt _ (by decide)]; rfl
  have cCount : ∀ v w1, Sl w1 w1.heap.size v 2 (bs [28, 0]) → Calls Try.prog 8 #[v] w1 fun e w' => e = .returned (.int .i64 3) ∧ w1 = w' := fun v w1 hd => by
    have h := count_any v [28, 0] w1 (by simp) hd
    rw [show cnt ([28, 0] : List UInt8) (8 * ([28, 0] : List UInt8).length) = 3 by decide +kernel] at h
    exact h
  have cUnset : ∀ g c w1, w.heap.size ≤ g → w1.ownsRow w.heap.size 5 1 (.slice (some ⟨g, 0, none⟩) 2 c) 2 (bs [28, 0]) → Below w.heap.size w w1 →
      Calls Try.prog 10 #[.slice (some ⟨g, 0, none⟩) 2 c, .int .i64 3, .int .i64 1] w1 fun e w' => e = .returned (.int .i64 1) ∧ w'.ownsRow w.heap.size 5 1 (.slice (some ⟨g, 0, none⟩) 2 c) 2 (bs [20, 0]) ∧ Below w.heap.size w w' := by
    intro g c w1 hg ho hb
    refine (unset_any w.heap.size g c [28, 0] 3 1 w w1 (by simp) hb.size (by simp) (by simp) ho hg hb).mono ?_
    rintro e w' ⟨rfl, l', hl, hbt, ho', hb'⟩
    obtain rfl := unset20 hl hbt
    exact ⟨rfl, ho', hb'⟩
  have cHas : ∀ v w1, Sl w1 w1.heap.size v 2 (bs [20, 0]) → Calls Try.prog 11 #[v, .int .i64 3] w1 fun e w' => e = .returned (.bool false) ∧ w1 = w' := fun v w1 hd => by
    have h := has_any v [20, 0] 3 w1 (by simp) hd
    rw [show (decide (0 ≤ (3 : Int)) && bit [20, 0] (3 : Int).toNat) = false by decide +kernel] at h
    exact h
  have cOr : ∀ v w1, Sl w1 w1.heap.size v 2 (bs [20, 0]) → Calls Try.prog 13 #[v, .slice none 0 0] w1 fun e w' => ∃ u, e = .returned u ∧ Sl w' w'.heap.size u 2 (bs [20, 0]) ∧ Below w1.heap.size w1 w' := by
    intro v w1 hd
    refine (or_any v _ [20, 0] [] w1 (by simp) (by simp) hd Sl.nil_).mono ?_
    rintro e w' ⟨u, rfl, ho, hb⟩
    exact ⟨u, rfl, Sl.of_own ho, hb⟩
  have cSame : ∀ v u w1, Sl w1 w1.heap.size v 2 (bs [20, 0]) → Sl w1 w1.heap.size u 2 (bs [20, 0]) → Calls Try.prog 12 #[v, u] w1 fun e w' => e = .returned (.bool true) ∧ Below w1.heap.size w1 w' :=
    fun v u w1 hd hu => same_yes v u [20, 0] [20, 0] w1 (by simp) (by simp) hd hu (fun _ => rfl)
  have hEq : ∀ W, (Op.equalIn 10000 28 (.agg #[.int .i64 2, .int .i64 3]) (.agg #[.int .i64 2, .int .i64 3])).run Try.prog W = .ok true W := fun W => by kernel_rfl
  go_enter Try.func4, Try.ntmps4
  go_wp2_with (first
    | (go_at_call 6; (with_reducible refine cNew.mono ?_); rintro e w1 ⟨g, c, rfl, hg, ho1, hb1⟩)
    | (go_at_call 7; (with_reducible refine (cSet _ _ _ hg ho1 hb1).mono ?_); rintro e w2 ⟨rfl, ho2, hb2⟩)
    | (go_at_call 9; (with_reducible refine (cNext _ _ (Sl.of_own ho2)).mono ?_); rintro e w3 ⟨rfl, rfl⟩)
    | (go_at_call 5; (with_reducible refine (cRuns _ _ (Sl.of_own ho2)).mono ?_); rintro e w4 ⟨gr, cr, rfl, hgr, hgl, hr0, hr1, hb4⟩; have ho4 := owns_below ho2 hb4; have hbb4 := hb2.trans (hb4.mono hb2.size))
    | (go_at_call 8; (with_reducible refine (cCount _ _ (Sl.of_own ho4)).mono ?_); rintro e w5 ⟨rfl, rfl⟩)
    | (go_at_call 10; (with_reducible refine (cUnset _ _ _ hg ho4 hbb4).mono ?_); rintro e w6 ⟨rfl, ho6, hb6⟩)
    | (go_at_call 11; (with_reducible refine (cHas _ _ (Sl.of_own ho6)).mono ?_); rintro e w7 ⟨rfl, rfl⟩)
    | (go_at_call 13; (with_reducible refine (cOr _ _ (Sl.of_own ho6)).mono ?_); rintro e w8 ⟨u8, rfl, hu8, hb8⟩; have ho8 := owns_below ho6 hb8; have hbb8 := hb6.trans (hb8.mono hb6.size))
    | (go_at_call 12; (with_reducible refine (cSame _ _ _ (Sl.of_own ho8) hu8).mono ?_); rintro e w9 ⟨rfl, hb9⟩))
  go_ret
  exact ⟨rfl, hbb8.trans (hb9.mono hbb8.size)⟩
end Go.Proofs.Ytleolacplgpigaa
