/- Heaps of pairs, plainly: what a step up and a step down keep. No program is named here. -/
import Derived.Test.YtoogmdokcndieaaBase
namespace Go.Proofs.Ytoogmdokcndieaa
set_option linter.unusedVariables false
/-- A timer that is set: its id, when it is due. -/
abbrev One := Int × Int
def ah (a b : One) : Bool := decide (a.2 < b.2) || (decide (a.2 = b.2) && decide (a.1 < b.1))
theorem ah_iff (a b : One) : ah a b = true ↔ a.2 < b.2 ∨ (a.2 = b.2 ∧ a.1 < b.1) := by simp [ah]
theorem ah_not (a b : One) : ah a b = false ↔ b.2 < a.2 ∨ (b.2 = a.2 ∧ b.1 ≤ a.1) := by
  rw [← Bool.not_eq_true, ah_iff]
  omega
theorem ah_asymm {a b : One} (h : ah a b = true) : ah b a = false := by rw [ah_iff] at h; rw [ah_not]; omega
theorem ah_tr {a b c : One} (h : ah a b = false) (k : ah b c = false) : ah a c = false := by rw [ah_not] at *; omega
theorem ah_lt {a b c : One} (h : ah a b = true) (k : ah c b = false) : ah c a = false := ah_tr k (ah_asymm h)
def up (i : Nat) : Nat := (i - 1) / 2
theorem up_lt {i : Nat} (h : 0 < i) : up i < i := by unfold up; omega
/-- The pair at a place. -/
def pl (H : List One) (i : Nat) : One := H.getD i (0, 0)
theorem pl_in {H : List One} {i : Nat} (h : i < H.length) : pl H i = H[i] := by simp [pl, List.getD_eq_getElem?_getD, h]
def swap (H : List One) (i j : Nat) : List One := (H.set i (pl H j)).set j (pl H i)
theorem swap_len (H : List One) (i j : Nat) : (swap H i j).length = H.length := by simp [swap]
theorem pl_set {H : List One} {i : Nat} (h : i < H.length) (x : One) (k : Nat) : pl (H.set i x) k = if k = i then x else pl H k := by
  unfold pl
  simp only [List.getD_eq_getElem?_getD, List.getElem?_set]
  by_cases hk : i = k
  · subst hk
    simp [h]
  · rw [if_neg hk, if_neg (Ne.symm hk)]
theorem pl_swap {H : List One} {i j : Nat} (hi : i < H.length) (hj : j < H.length) (k : Nat) : pl (swap H i j) k = if k = j then pl H i else if k = i then pl H j else pl H k := by
  unfold swap
  rw [pl_set (by simpa using hj)]
  by_cases hk : k = j
  · rw [if_pos hk, if_pos hk]
  · rw [if_neg hk, if_neg hk, pl_set hi]
theorem swap_perm {H : List One} {i j : Nat} (hi : i < H.length) (hj : j < H.length) : (swap H i j).Perm H := by
  unfold swap
  rw [pl_in hi, pl_in hj]
  exact List.set_set_perm hi hj
/-- Above and below number i alone something may be out of order. -/
def Bad (H : List One) (i : Nat) : Prop := (∀ j, 0 < j → j < H.length → j ≠ i → up j ≠ i → ah (pl H j) (pl H (up j)) = false) ∧ (∀ j, 0 < j → j < H.length → up j = i → 0 < i → ah (pl H j) (pl H (up i)) = false)
/-- Below number i alone. -/
def Sk (H : List One) (i : Nat) : Prop := (∀ j, 0 < j → j < H.length → up j ≠ i → ah (pl H j) (pl H (up j)) = false) ∧ (∀ j, 0 < j → j < H.length → up j = i → 0 < i → ah (pl H j) (pl H (up i)) = false)
def Kids (H : List One) (i : Nat) : Prop := ∀ j, 0 < j → j < H.length → up j = i → ah (pl H j) (pl H i) = false
def Heap (H : List One) : Prop := ∀ j, 0 < j → j < H.length → ah (pl H j) (pl H (up j)) = false
theorem Heap.sk {H : List One} (h : Heap H) (i : Nat) : Sk H i := by
  refine ⟨fun j h1 h2 _ => h j h1 h2, fun j h1 h2 h3 h4 => ?_⟩
  have e1 := h j h1 h2
  rw [h3] at e1
  have := up_lt h1
  exact ah_tr e1 (h i h4 (by omega))
theorem Sk.heap {H : List One} {i : Nat} (h : Sk H i) (k : Kids H i) : Heap H := by
  intro j h1 h2
  by_cases e : up j = i
  · have := k j h1 h2 e
    rwa [← e] at this
  · exact h.1 j h1 h2 e
theorem Bad.stop {H : List One} {i : Nat} (h : Bad H i) (hu : i = 0 ∨ ah (pl H i) (pl H (up i)) = false) : Sk H i := by
  refine ⟨fun j h1 h2 h3 => ?_, h.2⟩
  by_cases e : j = i
  · subst e
    rcases hu with h0 | h0
    · omega
    · exact h0
  · exact h.1 j h1 h2 e h3
theorem Bad.rise {H : List One} {i : Nat} (h : Bad H i) (h0 : 0 < i) (hi : i < H.length) (ha : ah (pl H i) (pl H (up i)) = true) : Bad (swap H i (up i)) (up i) ∧ Kids (swap H i (up i)) (up i) := by
  have hu := up_lt h0
  have hul : up i < H.length := by omega
  have P := pl_swap hi hul
  refine ⟨⟨fun j h1 h2 h3 h4 => ?_, fun j h1 h2 h3 h4 => ?_⟩, fun j h1 h2 h3 => ?_⟩
  · rw [swap_len] at h2
    rw [P, P, if_neg h3, if_neg h4]
    have hji : j ≠ i := by rintro rfl; exact h4 rfl
    rw [if_neg hji]
    by_cases e : up j = i
    · rw [if_pos e]
      exact h.2 j h1 h2 e h0
    · rw [if_neg e]
      exact h.1 j h1 h2 hji e
  · rw [swap_len] at h2
    have huu := up_lt h4
    rw [P, P, if_neg (show up (up i) ≠ up i by omega), if_neg (show up (up i) ≠ i by omega)]
    have hup : ah (pl H (up i)) (pl H (up (up i))) = false := h.1 (up i) h4 hul (by omega) (by omega)
    have hjl := up_lt h1
    rw [if_neg (show j ≠ up i by omega)]
    by_cases e : j = i
    · rw [if_pos e]
      exact hup
    · rw [if_neg e]
      have := h.1 j h1 h2 e (by omega)
      rw [h3] at this
      exact ah_tr this hup
  · rw [swap_len] at h2
    have hjl := up_lt h1
    rw [P, P, if_pos rfl, if_neg (show j ≠ up i by omega)]
    by_cases e : j = i
    · rw [if_pos e]
      exact ah_asymm ha
    · rw [if_neg e]
      have := h.1 j h1 h2 e (by omega)
      rw [h3] at this
      exact ah_lt ha this
/-- The least of number i and its two below. -/
def least1 (H : List One) (i : Nat) : Nat := if 2 * i + 1 < H.length ∧ ah (pl H (2 * i + 1)) (pl H i) = true then 2 * i + 1 else i
def least (H : List One) (i : Nat) : Nat := if 2 * i + 2 < H.length ∧ ah (pl H (2 * i + 2)) (pl H (least1 H i)) = true then 2 * i + 2 else least1 H i
theorem up_kids {j i : Nat} (h : 0 < j) : up j = i ↔ j = 2 * i + 1 ∨ j = 2 * i + 2 := by unfold up; omega
theorem least_spec (H : List One) (i : Nat) (hi : i < H.length) : (least H i = i ∨ (least H i < H.length ∧ 0 < least H i ∧ up (least H i) = i ∧ ah (pl H (least H i)) (pl H i) = true)) ∧ (∀ j, 0 < j → j < H.length → up j = i → ah (pl H j) (pl H (least H i)) = false) := by
  have a1 : least1 H i = i ∨ (least1 H i = 2 * i + 1 ∧ 2 * i + 1 < H.length ∧ ah (pl H (2 * i + 1)) (pl H i) = true) := by
    unfold least1
    split
    · exact .inr ⟨rfl, by assumption⟩
    · exact .inl rfl
  have a2 : 2 * i + 1 < H.length → ah (pl H (2 * i + 1)) (pl H (least1 H i)) = false := by
    intro hl
    rcases hb : ah (pl H (2 * i + 1)) (pl H i) with _ | _
    · have : least1 H i = i := by unfold least1; rw [if_neg (by rw [hb]; simp)]
      rw [this]
      exact hb
    · have : least1 H i = 2 * i + 1 := by unfold least1; rw [if_pos ⟨hl, hb⟩]
      rw [this]
      rw [ah_not]
      omega
  by_cases hc : 2 * i + 2 < H.length ∧ ah (pl H (2 * i + 2)) (pl H (least1 H i)) = true
  · have e : least H i = 2 * i + 2 := by unfold least; rw [if_pos hc]
    rw [e]
    refine ⟨.inr ⟨hc.1, by omega, (up_kids (by omega)).2 (.inr rfl), ?_⟩, fun j h1 h2 h3 => ?_⟩
    · rcases a1 with h | ⟨h, h5, h6⟩
      · have := hc.2
        rw [h] at this
        exact this
      · have := hc.2
        rw [h] at this
        rw [ah_iff] at *
        omega
    · rcases (up_kids h1).1 h3 with rfl | rfl
      · exact ah_lt hc.2 (a2 h2)
      · rw [ah_not]; omega
  · have e : least H i = least1 H i := by unfold least; rw [if_neg hc]
    rw [e]
    refine ⟨?_, fun j h1 h2 h3 => ?_⟩
    · rcases a1 with h | ⟨h, h5, h6⟩
      · exact .inl h
      · rw [h]
        exact .inr ⟨h5, by omega, (up_kids (by omega)).2 (.inl rfl), h6⟩
    · rcases (up_kids h1).1 h3 with rfl | rfl
      · exact a2 h2
      · rcases hb : ah (pl H (2 * i + 2)) (pl H (least1 H i)) with _ | _
        · rfl
        · exact absurd ⟨h2, hb⟩ hc
theorem Sk.stop {H : List One} {i : Nat} (h : Sk H i) (hi : i < H.length) (hl : least H i = i) : Heap H := by
  refine h.heap fun j h1 h2 h3 => ?_
  have := (least_spec H i hi).2 j h1 h2 h3
  rwa [hl] at this
theorem Sk.sink {H : List One} {i : Nat} (h : Sk H i) (hi : i < H.length) (hl : least H i ≠ i) : Sk (swap H i (least H i)) (least H i) ∧ least H i < H.length ∧ i < least H i := by
  obtain ⟨h1, hmin⟩ := least_spec H i hi
  obtain ⟨hll, hl0, hul, ha⟩ := h1.resolve_left hl
  have hul2 := up_lt hl0
  rw [hul] at hul2
  generalize least H i = m at *
  have P := pl_swap hi hll
  refine ⟨⟨fun j k1 k2 k3 => ?_, fun j k1 k2 k3 k4 => ?_⟩, hll, hul2⟩
  · rw [swap_len] at k2
    rw [P, P]
    rw [if_neg k3]
    by_cases e : j = m
    · subst e
      rw [if_pos rfl, hul, if_pos rfl]
      exact ah_asymm ha
    · rw [if_neg e]
      by_cases e2 : j = i
      · subst e2
        rw [if_pos rfl]
        have := up_lt k1
        rw [if_neg (by omega)]
        exact h.2 m hl0 hll hul k1
      · rw [if_neg e2]
        by_cases e3 : up j = i
        · rw [if_pos e3]
          exact hmin j k1 k2 e3
        · rw [if_neg e3]
          exact h.1 j k1 k2 e3
  · rw [swap_len] at k2
    have hj := up_lt k1
    rw [P, P, hul, if_neg (show j ≠ m by omega), if_neg (show j ≠ i by omega), if_neg (show i ≠ m by omega), if_pos rfl]
    have := h.1 j k1 k2 (by omega)
    rwa [k3] at this
/-- The last one put at i, and taken off. -/
def cut (H : List One) (i : Nat) : List One := (H.set i (pl H (H.length - 1))).take (H.length - 1)
theorem cut_len {H : List One} (i : Nat) : (cut H i).length = H.length - 1 := by simp [cut]
theorem cut_pl {H : List One} {i : Nat} (hi : i < H.length) (k : Nat) (hk : k < H.length - 1) : pl (cut H i) k = if k = i then pl H (H.length - 1) else pl H k := by
  have : pl (cut H i) k = pl (H.set i (pl H (H.length - 1))) k := by
    unfold pl cut
    simp only [List.getD_eq_getElem?_getD, List.getElem?_take, if_pos hk]
    rfl
  rw [this, pl_set hi]
theorem cut_perm {H : List One} {i : Nat} (hi : i < H.length) : (cut H i).Perm (H.eraseIdx i) := by
  have hn : H ≠ [] := by rintro rfl; simp at hi
  by_cases hl : i = H.length - 1
  · have e : cut H i = H.take (H.length - 1) := by
      unfold cut
      subst hl
      rw [List.take_set, List.set_eq_of_length_le (by simp)]
    rw [e, hl, List.eraseIdx_eq_take_drop_succ]
    rw [show H.length - 1 + 1 = H.length by omega]
    simp
  · have hs : swap H i (H.length - 1) = cut H i ++ [pl H i] := by
      unfold swap cut
      apply List.ext_getElem
      · simp; omega
      · intro k h1 h2
        simp only [List.length_set] at h1
        rw [List.getElem_set]
        by_cases e : H.length - 1 = k
        · subst e
          rw [if_pos rfl, List.getElem_append_right (by simp)]
          simp
        · rw [if_neg e, List.getElem_append_left (by simp; omega), List.getElem_take]
    have hp := swap_perm hi (show H.length - 1 < H.length by omega)
    rw [hs] at hp
    have h2 : (H.eraseIdx i ++ [pl H i]).Perm H := by
      rw [pl_in hi]
      have e : H = H.take i ++ H[i] :: H.drop (i + 1) := by rw [List.getElem_cons_drop, List.take_append_drop]
      have : (H[i] :: H.eraseIdx i).Perm H := by
        rw [List.eraseIdx_eq_take_drop_succ]
        conv => rhs; rw [e]
        exact List.perm_middle.symm
      exact (List.perm_append_comm).trans this
    have h3 := hp.trans h2.symm
    exact (List.perm_append_right_iff _).1 h3
theorem Heap.cut {H : List One} {i : Nat} (h : Heap H) (hi : i < H.length - 1) : Bad (cut H i) i := by
  have P := cut_pl (H := H) (show i < H.length by omega)
  refine ⟨fun j h1 h2 h3 h4 => ?_, fun j h1 h2 h3 h4 => ?_⟩
  · rw [cut_len] at h2
    have := up_lt h1
    rw [P _ h2, P _ (by omega), if_neg h3, if_neg h4]
    exact h j h1 (by omega)
  · rw [cut_len] at h2
    have h5 := up_lt h1
    have h6 := up_lt h4
    rw [P _ h2, P _ (by omega), if_neg (by omega), if_neg (by omega)]
    exact (h.sk i).2 j h1 (by omega) h3 h4
theorem Heap.cut_last {H : List One} {i : Nat} (h : Heap H) (hi : i = H.length - 1) (h0 : 0 < H.length) : Heap (Go.Proofs.Ytoogmdokcndieaa.cut H i) := by
  intro j h1 h2
  rw [cut_len] at h2
  have P := cut_pl (H := H) (show i < H.length by omega)
  have := up_lt h1
  rw [P _ h2, P _ (by omega), if_neg (by omega), if_neg (by omega)]
  exact h j h1 (by omega)
theorem Heap.push {H : List One} (h : Heap H) (x : One) : Bad (H ++ [x]) H.length := by
  have P : ∀ k, k < H.length → pl (H ++ [x]) k = pl H k := by
    intro k hk
    rw [pl_in (by simp; omega), pl_in hk, List.getElem_append_left hk]
  refine ⟨fun j h1 h2 h3 h4 => ?_, fun j h1 h2 h3 h4 => ?_⟩
  · simp at h2
    have := up_lt h1
    rw [P _ (by omega), P _ (by omega)]
    exact h j h1 (by omega)
  · simp at h2
    have := up_lt h1
    omega
theorem Sk.heap_last {H : List One} {i : Nat} (h : Sk H i) (hi : H.length ≤ i + 1) : Heap H := by
  refine h.heap fun j h1 h2 h3 => ?_
  have := up_lt h1
  omega
/-- The first is the least. -/
theorem Heap.min {H : List One} (h : Heap H) : ∀ j, j < H.length → ah (pl H j) (pl H 0) = false := by
  intro j
  induction j using Nat.strongRecOn with
  | _ j ih =>
    intro hj
    rcases Nat.eq_zero_or_pos j with rfl | h0
    · rw [ah_not]; omega
    · have := up_lt h0
      exact ah_tr (h j h0 hj) (ih (up j) this (by omega))
end Go.Proofs.Ytoogmdokcndieaa
