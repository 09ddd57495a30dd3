/- The document's network: refused Sends and Copies; Copy: contracts. -/
import Derived.Test.YtmlimmcaidkoeaaRf3
import Derived.Test.YtmlimmcaidkoeaaNt9
import Derived.Deep.RegionHeldLaw
namespace Go.Proofs.Ytmlimmcaidkoeaa
open Go.ChangeShapes Go.WideShapes Go.ChangeAt Go.RowKit Go.Lib
set_option linter.unusedVariables false
set_option maxRecDepth 100000 in
set_option maxHeartbeats 2000000 in
theorem rsend_no (B R h s : Nat) (u : Value) (M : List Ab) (fr to : Int) (d : Value) (l : List UInt8) (hne : sendC h M.length fr to l.length ≠ 0)
    (w : World) (hn : RefInv w B R u h M s) (hd : Sl w w.heap.size d l.length (bs l)) :
    Calls Try.prog 25 #[.pointer (some ⟨R, 0, none⟩), .int .i64 fr, .int .i64 to, d] w fun e w' => e = .returned (.int .i64 (sendC h M.length fr to l.length)) ∧ w = w' := by
  obtain ⟨A, c, rfl, hc1, hc2⟩ := hn.parts
  obtain ⟨A2, c2, rfl, hc3, hc4⟩ := hd.form
  have hx0 : w.cell? ⟨R, 0, none⟩ = some (.int .i64 (h : Nat)) := hn.mem.cell 0
  have hx1 : w.cell? ⟨R, 1, none⟩ = some (.slice A M.length c) := hn.mem.cell 1
  clear hd hn
  by_cases hcnd : 0 ≤ fr ∧ fr < h ∧ 0 ≤ to ∧ to < h
  · obtain ⟨q1, q2, q3, q4⟩ := hcnd
    by_cases hl : 8192 < l.length
    · have e5 : sendC h M.length fr to l.length = 5 := by unfold sendC; rw [if_neg (by omega), if_pos hl]
      rw [e5]
      have hlx : (8192 : Int) < (l.length : Int) := by omega
      go_enter Try.func25, Try.ntmps25
      go_wp2
      all_goals go_ret
      all_goals exact ⟨rfl, rfl⟩
    · have hL : 4096 ≤ M.length := by
        unfold sendC at hne
        rw [if_neg (by omega), if_neg hl] at hne
        by_cases h4 : 4096 ≤ M.length
        · exact h4
        · rw [if_neg h4] at hne; exact absurd rfl hne
      have e5 : sendC h M.length fr to l.length = 7 := by unfold sendC; rw [if_neg (by omega), if_neg hl, if_pos hL]
      rw [e5]
      have hlx : (l.length : Int) ≤ 8192 := by omega
      have hLx : (4096 : Int) ≤ (M.length : Int) := by omega
      go_enter Try.func25, Try.ntmps25
      go_wp2
      all_goals go_ret
      all_goals exact ⟨rfl, rfl⟩
  · have e5 : sendC h M.length fr to l.length = 1 := by unfold sendC; rw [if_pos (by omega)]
    rw [e5]
    clear hne e5
    have hcs : fr < 0 ∨ (0 ≤ fr ∧ (h : Int) ≤ fr) ∨ (0 ≤ fr ∧ fr < h ∧ to < 0) ∨ (0 ≤ fr ∧ fr < h ∧ 0 ≤ to ∧ (h : Int) ≤ to) := by omega
    clear hcnd
    rcases hcs with q1 | ⟨q1, q2⟩ | ⟨q1, q2, q3⟩ | ⟨q1, q2, q3, q4⟩
    all_goals
      go_enter Try.func25, Try.ntmps25
      go_wp2
    all_goals go_ret
    all_goals exact ⟨rfl, rfl⟩
set_option maxHeartbeats 2000000 in
theorem rcopy_no (B R h s : Nat) (u : Value) (M : List Ab) (i : Int) (hi : ¬ (0 ≤ i ∧ i < M.length ∧ M.length < 4096)) (w : World) (hn : RefInv w B R u h M s) :
    Calls Try.prog 27 #[.pointer (some ⟨R, 0, none⟩), .int .i64 i] w fun e w' => e = .returned (.bool false) ∧ Below w.heap.size w w' := by
  by_cases hf : 0 ≤ i ∧ i < M.length
  · obtain ⟨k, rfl⟩ : ∃ k : Nat, i = k := ⟨i.toNat, by omega⟩
    have hk : k < M.length := by omega
    have hat := at_ok B R h s u M k hk w hn
    obtain ⟨A, c, rfl, hc1, hc2⟩ := hn.parts
    have hx : ∀ w1, Below w.heap.size w w1 → ∀ o, (w1.alloc o).cell? ⟨R, 1, none⟩ = some (.slice A M.length c) := fun w1 hb o => Lib.cell?_alloc_some o ((hn.below hb).mem.cell 1)
    have hLx : (4096 : Int) ≤ (M.length : Int) := by omega
    generalize M[k] = p at *
    obtain ⟨fr, to, l⟩ := p
    unfold Ab.val str at hat
    simp only at hat
    go_enter Try.func27, Try.ntmps27
    go_wp2_with (go_at_call 29; (refine hat.mono ?_); rintro e w1 ⟨rfl, hb1⟩; have hx1 := hx _ hb1)
    all_goals go_ret
    all_goals exact ⟨rfl, hb1.alloc hb1.size _⟩
  · have hat := at_no B R h s u M i hf w hn
    unfold ab0 at hat
    go_enter Try.func27, Try.ntmps27
    go_wp2_with (go_at_call 29; (refine hat.mono ?_); rintro e w1 ⟨rfl, hb1⟩)
    all_goals go_ret
    all_goals exact ⟨rfl, hb1.alloc hb1.size _⟩
end Go.Proofs.Ytmlimmcaidkoeaa
