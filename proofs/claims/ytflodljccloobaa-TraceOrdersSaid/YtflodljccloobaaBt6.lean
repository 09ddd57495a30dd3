/- Package bits: the rows of set bits, told one by one. -/
import Derived.Test.YtflodljccloobaaBt5
namespace Go.Proofs.Ytflodljccloobaa
open Go.ChangeShapes Go.WideShapes Go.ChangeAt Go.RowKit Go.Lib
set_option linter.unusedVariables false
/-- R are the rows of the bits that are set below t. -/
structure RunsOf (l : List UInt8) (t : Nat) (R : List (Nat × Nat)) : Prop where
  each : ∀ r ∈ R, 1 ≤ r.2 ∧ r.1 + r.2 ≤ t
  apart : R.Pairwise fun a b => a.1 + a.2 < b.1
  all : ∀ j, j < t → (bit l j = true ↔ ∃ r ∈ R, r.1 ≤ j ∧ j < r.1 + r.2)
  sum : cnt l t = (R.map (·.2)).sum
  le : t ≤ 8 * l.length
  last : R ≠ [] → t < 8 * l.length → bit l t = false
theorem RunsOf.none (l : List UInt8) : RunsOf l 0 [] :=
  ⟨by simp, List.Pairwise.nil, by intro j hj; omega, rfl, by omega, by simp⟩
theorem RunsOf.push {l : List UInt8} {t k E : Nat} {R : List (Nat × Nat)} (h : RunsOf l t R) (h1 : t ≤ k) (h2 : ∀ j, t ≤ j → j < k → bit l j = false) (h3 : ∀ j, k ≤ j → j < E → bit l j = true) (h4 : k < E) (h5 : E ≤ 8 * l.length) (h6 : E < 8 * l.length → bit l E = false) : RunsOf l E (R ++ [(k, E - k)]) := by
  refine ⟨fun r hr => ?_, ?_, fun j hj => ?_, ?_, h5, fun _ => h6⟩
  · rw [List.mem_append, List.mem_singleton] at hr
    rcases hr with hr | rfl
    · have := h.each r hr
      exact ⟨this.1, by omega⟩
    · simp only
      omega
  · rw [List.pairwise_append]
    refine ⟨h.apart, List.pairwise_singleton _ _, fun a ha b hb => ?_⟩
    rw [List.mem_singleton] at hb
    subst hb
    have hle := (h.each a ha).2
    rcases Nat.lt_or_ge (a.1 + a.2) k with hlt | hge
    · exact hlt
    · obtain rfl : t = k := by omega
      have h7 := h.last (List.ne_nil_of_mem ha) (by omega)
      rw [h3 t (by omega) h4] at h7
      cases h7
  · by_cases hjt : j < t
    · rw [h.all j hjt]
      constructor
      · rintro ⟨r, hr, h7⟩
        exact ⟨r, by simp [hr], h7⟩
      · rintro ⟨r, hr, h7⟩
        rw [List.mem_append, List.mem_singleton] at hr
        rcases hr with hr | rfl
        · exact ⟨r, hr, h7⟩
        · simp only at h7
          omega
    · by_cases hjk : j < k
      · rw [h2 j (by omega) hjk]
        constructor
        · intro h7
          cases h7
        · rintro ⟨r, hr, h7⟩
          rw [List.mem_append, List.mem_singleton] at hr
          rcases hr with hr | rfl
          · have := (h.each r hr).2
            omega
          · simp only at h7
            omega
      · constructor
        · intro _
          exact ⟨(k, E - k), by simp, by simp only; omega, by simp only; omega⟩
        · intro _
          exact h3 j (by omega) hj
  · have e1 : cnt l k = cnt l t := by
      have := cnt_gap (l := l) (F := t) (n := k - t) fun j a b => h2 j a (by omega)
      rwa [show t + (k - t) = k by omega] at this
    have e2 : cnt l E = cnt l k + (E - k) := by
      have := cnt_run (l := l) (F := k) (n := E - k) fun j a b => h3 j a (by omega)
      rwa [show k + (E - k) = E by omega] at this
    rw [e2, e1, h.sum, List.map_append, List.sum_append]
    simp
/-- Behind the last row none is set. -/
theorem RunsOf.done {l : List UInt8} {t : Nat} {R : List (Nat × Nat)} (h : RunsOf l t R) (h2 : ∀ j, t ≤ j → j < 8 * l.length → bit l j = false) : cnt l (8 * l.length) = (R.map (·.2)).sum ∧ ∀ j, bit l j = true ↔ ∃ r ∈ R, r.1 ≤ j ∧ j < r.1 + r.2 := by
  constructor
  · have := cnt_gap (l := l) (F := t) (n := 8 * l.length - t) fun j a b => h2 j a (by have := h.le; omega)
    rw [show t + (8 * l.length - t) = 8 * l.length by have := h.le; omega] at this
    rw [this, h.sum]
  · intro j
    by_cases hjt : j < t
    · exact h.all j hjt
    · have hf : bit l j = false := by
        rcases Nat.lt_or_ge j (8 * l.length) with h7 | h7
        · exact h2 j (by omega) h7
        · exact bit_far h7
      rw [hf]
      constructor
      · intro h7
        cases h7
      · rintro ⟨r, hr, h7⟩
        have := (h.each r hr).2
        omega
/-- The first place from t on where the bit is so, or there is none. -/
theorem first_or (l : List UInt8) (t : Nat) (set : Bool) : (∃ k, t ≤ k ∧ k < 8 * l.length ∧ bit l k = set ∧ ∀ j, t ≤ j → j < k → bit l j = !set) ∨ ∀ j, t ≤ j → j < 8 * l.length → bit l j = !set := by
  have key : ∀ n, (∃ k, t ≤ k ∧ k < t + n ∧ bit l k = set ∧ ∀ j, t ≤ j → j < k → bit l j = !set) ∨ ∀ j, t ≤ j → j < t + n → bit l j = !set := by
    intro n
    induction n with
    | zero => exact .inr fun j h1 h2 => by omega
    | succ n ih =>
      rcases ih with ⟨k, h1, h2, h3, h4⟩ | h
      · exact .inl ⟨k, h1, by omega, h3, h4⟩
      · by_cases hb : bit l (t + n) = set
        · exact .inl ⟨t + n, by omega, by omega, hb, fun j h1 h2 => h j h1 h2⟩
        · refine .inr fun j h1 h2 => ?_
          rcases Nat.lt_or_ge j (t + n) with h5 | h5
          · exact h j h1 h5
          · obtain rfl : j = t + n := by omega
            revert hb
            cases bit l (t + n) <;> cases set <;> simp
  rcases key (8 * l.length - t) with ⟨k, h1, h2, h3, h4⟩ | h
  · exact .inl ⟨k, h1, by omega, h3, h4⟩
  · exact .inr fun j h1 h2 => h j h1 (by omega)
end Go.Proofs.Ytflodljccloobaa
