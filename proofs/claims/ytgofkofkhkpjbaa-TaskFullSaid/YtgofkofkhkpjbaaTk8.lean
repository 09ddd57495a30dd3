/- Package task: rows of simple tasks (plain); gemellaw16.one. -/
import Derived.Test.YtgofkofkhkpjbaaTk7
namespace Go.Proofs.Ytgofkofkhkpjbaa
open Go.ChangeShapes Go.WideShapes Go.ChangeAt Go.RowKit Go.Lib
set_option linter.unusedVariables false
set_option linter.unusedSimpArgs false
namespace Tk
/-- Simple tasks 0, 1, .. that wait. -/
def rowN (k : Nat) : List Tk := (List.range k).map fun i => ⟨i, 0, false⟩
theorem rowN_len (k : Nat) : (rowN k).length = k := by simp [rowN]
theorem rowN_get (k i : Nat) (h : i < (rowN k).length) : (rowN k)[i] = ⟨i, 0, false⟩ := by simp [rowN]
theorem rowN_succ (k : Nat) : rowN k ++ [⟨k, 0, false⟩] = rowN (k + 1) := by simp [rowN, List.range_succ]
theorem rowN_none (k tag : Nat) (h : k ≤ tag) : (rowN k).findIdx? (fun x => x.tag == tag) = none := find_none fun j hj => by
  rw [rowN_get]
  rw [rowN_len] at hj
  exact beq_eq_false_iff_ne.2 (show j ≠ tag by omega)
theorem rowN_some (k tag : Nat) (h : tag < k) : (rowN k).findIdx? (fun x => x.tag == tag) = some tag := find_some (by rw [rowN_len]; exact h) (by rw [rowN_get]; exact beq_self_eq_true tag) fun j hj hjk => by
  rw [rowN_get]
  exact beq_eq_false_iff_ne.2 (show j ≠ tag by omega)
theorem rowN_ins (k : Nat) : ins (rowN k) (atOf (rowN k) 0) ⟨k, 0, false⟩ = rowN (k + 1) := by
  rw [show atOf (rowN k) 0 = (rowN k).length from rfl, ins_end]
  exact rowN_succ k
/-- All are simple. -/
def Sim (L : List Tk) : Prop := ∀ t ∈ L, t.attr = 0
theorem sim_bar {L R : List Tk} (h : Sim L) (j : Nat) (hj : j ≤ L.length) : barTo (L ++ R) j = false := by
  unfold barTo
  rw [List.any_eq_false]
  intro x hx
  rw [List.take_append_of_le_length hj] at hx
  rw [h x (List.mem_of_mem_take hx)]
  simp
theorem sim_en {L R : List Tk} (h : Sim L) (h2 : ∀ t ∈ L, t.st = false) (j : Nat) (hj : j ≤ L.length) : (enTo (L ++ R) j).length = j := by
  induction j with
  | zero => rfl
  | succ j ih =>
    have hl : j < (L ++ R).length := by rw [List.length_append]; omega
    have e : (L ++ R)[j] = L[j] := List.getElem_append_left (by omega)
    rw [enTo_yes _ j hl (by rw [e]; exact h2 _ (List.getElem_mem _)) (by rw [e, sim_bar h j (by omega), h _ (List.getElem_mem _)]; rfl), List.length_append, ih (by omega)]
    rfl
theorem en_mem {L : List Tk} (h : Sim L) (j i : Nat) (hj : j ≤ L.length) (hi : i < j) (hs : L[i].st = false) : L[i].tag ∈ enTo L j := by
  induction j with
  | zero => omega
  | succ j ih =>
    have hb := sim_bar (R := []) h j (by omega)
    rw [List.append_nil] at hb
    by_cases hij : i = j
    · subst hij
      rw [enTo_yes L i hj hs (by rw [hb, h _ (List.getElem_mem _)]; rfl)]
      exact List.mem_append_right _ (List.mem_singleton.2 rfl)
    · have hm := ih (by omega) (by omega) hs
      rw [enTo, List.getElem?_eq_getElem hj]
      dsimp only
      split
      · exact List.mem_append_left _ hm
      · exact hm
theorem rowN_sim (k : Nat) : Sim (rowN k) := by
  intro t ht
  simp only [rowN, List.mem_map] at ht
  obtain ⟨i, _, rfl⟩ := ht
  rfl
theorem rowN_st (k : Nat) : ∀ t ∈ rowN k, t.st = false := by
  intro t ht
  simp only [rowN, List.mem_map] at ht
  obtain ⟨i, _, rfl⟩ := ht
  rfl
theorem rowN_tag (k : Nat) : ∀ t ∈ rowN k, t.tag < k := by
  intro t ht
  simp only [rowN, List.mem_map] at ht
  obtain ⟨i, hi, rfl⟩ := ht
  simpa using hi
/-- What is left behind the one that was done. -/
def rowD (m d : Nat) : List Tk := (rowN m).eraseIdx d
def rowS (m d : Nat) : List Tk := (rowN m).set d ⟨d, 0, true⟩
theorem rowS_len (m d : Nat) : (rowS m d).length = m := by unfold rowS; rw [List.length_set, rowN_len]
theorem rowS_tag (m d j : Nat) (hj : j < (rowS m d).length) : (rowS m d)[j].tag = j := by
  simp only [rowS, List.getElem_set]
  split
  · rename_i h; exact h
  · rw [rowN_get]
theorem rowS_none (m d tag : Nat) (h : m ≤ tag) (hd : d < m) : (rowS m d).findIdx? (fun x => x.tag == tag) = none := find_none fun j hj => by
  have h1 := rowS_len m d
  have h2 : (rowS m d)[j].tag = j := rowS_tag m d j hj
  exact beq_eq_false_iff_ne.2 (by rw [h2]; omega)
theorem rowS_some (m d : Nat) (h : d < m) : (rowS m d).findIdx? (fun x => x.tag == d) = some d := find_some (by rw [rowS_len]; exact h) (by rw [rowS_tag]; exact beq_self_eq_true d) fun j hj hjk => by
  rw [rowS_tag]
  exact beq_eq_false_iff_ne.2 (show j ≠ d by omega)
theorem rowS_erase (m d : Nat) : (rowS m d).eraseIdx d = rowD m d := by
  unfold rowS rowD
  rw [List.eraseIdx_set_eq]
theorem rowD_len (m d : Nat) (h : d < m) : (rowD m d).length = m - 1 := by unfold rowD; rw [List.length_eraseIdx_of_lt (by rw [rowN_len]; exact h), rowN_len]
theorem rowD_none (m d tag : Nat) (h : m ≤ tag) : (rowD m d).findIdx? (fun x => x.tag == tag) = none := by
  rw [List.findIdx?_eq_none_iff]
  intro x hx
  have := rowN_tag m x (List.mem_of_mem_eraseIdx hx)
  exact beq_eq_false_iff_ne.2 (show x.tag ≠ tag by omega)
theorem rowD_en (m d : Nat) (h : d < m) : (enTo (rowD m d ++ [⟨1000, 1, false⟩]) (rowD m d ++ [(⟨1000, 1, false⟩ : Tk)]).length).length = m - 1 + (if m = 1 then 1 else 0) := by
  have hs : Sim (rowD m d) := fun t ht => rowN_sim m t (List.mem_of_mem_eraseIdx ht)
  have h2 : ∀ t ∈ rowD m d, t.st = false := fun t ht => rowN_st m t (List.mem_of_mem_eraseIdx ht)
  have hl := rowD_len m d h
  have he := sim_en (R := [⟨1000, 1, false⟩]) hs h2 (rowD m d).length (Nat.le_refl _)
  have hb := sim_bar (R := [⟨1000, 1, false⟩]) hs (rowD m d).length (Nat.le_refl _)
  obtain ⟨N, hN⟩ : ∃ N, N = (rowD m d ++ [(⟨1000, 1, false⟩ : Tk)]).length := ⟨_, rfl⟩
  have hN2 : N = (rowD m d).length + 1 := by rw [hN, List.length_append]; rfl
  rw [← hN, hN2]
  have hlt : (rowD m d).length < (rowD m d ++ [(⟨1000, 1, false⟩ : Tk)]).length := by rw [List.length_append]; exact Nat.lt_succ_self _
  have hg : (rowD m d ++ [(⟨1000, 1, false⟩ : Tk)])[(rowD m d).length] = ⟨1000, 1, false⟩ := by rw [List.getElem_append_right (Nat.le_refl _)]; simp
  by_cases h1 : m = 1
  · rw [enTo_yes _ _ hlt (by rw [hg]) (by rw [hg, hb, hl, h1]; rfl), List.length_append, he, if_pos h1, List.length_singleton, hl]
  · rw [enTo_no _ _ hlt (.inr (by rw [hg, hb, hl]; have : (m - 1 == 0) = false := beq_eq_false_iff_ne.2 (by omega); simp [freeB, this])), he, if_neg h1, hl, Nat.add_zero]
theorem one_any (m : Nat) (w : World) : Calls Try.prog 11 #[.int .i64 (m : Nat)] w fun e w' => e = .returned (.int .i64 (if m = 1 then 1 else 0)) ∧ w = w' := by
  by_cases h : m = 1
  · subst h
    rw [if_pos rfl]
    go_enter Try.func11, Try.ntmps11
    go_wp2
    go_ret
    exact ⟨rfl, rfl⟩
  · have h1 : ¬ (m : Int) = 1 := by omega
    rw [if_neg h]
    go_enter Try.func11, Try.ntmps11
    go_wp2
    go_ret
    exact ⟨rfl, rfl⟩
end Tk
end Go.Proofs.Ytgofkofkhkpjbaa
