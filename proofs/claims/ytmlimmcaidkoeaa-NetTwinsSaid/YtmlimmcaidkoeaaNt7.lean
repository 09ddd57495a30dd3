/- Package net: refused Sends, Copy: contracts. -/
import Derived.Test.YtmlimmcaidkoeaaNt6
namespace Go.Proofs.Ytmlimmcaidkoeaa
open Go.ChangeShapes Go.WideShapes Go.ChangeAt Go.RowKit Go.Lib
set_option linter.unusedVariables false
/-- What Send answers. -/
def sendC (h n : Nat) (fr to : Int) (len : Nat) : Int := if ¬ (0 ≤ fr ∧ fr < h ∧ 0 ≤ to ∧ to < h) then 1 else if 8192 < len then 5 else if 4096 ≤ n then 7 else 0
set_option maxRecDepth 100000 in
set_option maxHeartbeats 2000000 in
theorem send_no (B X h s : Nat) (v : Value) (L : List Pk) (fr to : Int) (d : Value) (l : List UInt8) (hne : sendC h L.length fr to l.length ≠ 0)
    (w : World) (hn : NetInv w B X v h L s) (hd : Sl w w.heap.size d l.length (bs l)) :
    Calls Try.prog 20 #[.pointer (some ⟨X, 0, none⟩), .int .i64 fr, .int .i64 to, d] w fun e w' => e = .returned (.int .i64 (sendC h L.length fr to l.length)) ∧ w = w' := by
  have hh := fun n => host_any B X h s v L n w hn
  obtain ⟨A, c, rfl, hc1, hc2⟩ := hn.parts
  obtain ⟨A2, c2, rfl, hc3, hc4⟩ := hd.form
  have hx0 : w.cell? ⟨X, 1, none⟩ = some (.slice A L.length c) := hn.mem.cell 1
  clear hd
  by_cases hf : 0 ≤ fr ∧ fr < h
  · have d1 : decide (0 ≤ fr ∧ fr < (h : Int)) = true := decide_eq_true hf
    by_cases ht : 0 ≤ to ∧ to < h
    · have d2 : decide (0 ≤ to ∧ to < (h : Int)) = true := decide_eq_true ht
      by_cases hl : 8192 < l.length
      · have e5 : sendC h L.length fr to l.length = 5 := by unfold sendC; rw [if_neg (by omega), if_pos hl]
        rw [e5]
        have hlx : (8192 : Int) < (l.length : Int) := by omega
        go_enter Try.func20, Try.ntmps20
        go_wp2_with (go_at_call 32; refine (hh _).mono ?_; rintro e w' ⟨rfl, rfl⟩; simp only [d1, d2])
        all_goals go_ret
        all_goals exact ⟨rfl, rfl⟩
      · have hL : 4096 ≤ L.length := by
          unfold sendC at hne
          rw [if_neg (by omega), if_neg hl] at hne
          by_cases h4 : 4096 ≤ L.length
          · exact h4
          · rw [if_neg h4] at hne; exact absurd rfl hne
        have e5 : sendC h L.length fr to l.length = 7 := by unfold sendC; rw [if_neg (by omega), if_neg hl, if_pos hL]
        rw [e5]
        have hlx : (l.length : Int) ≤ 8192 := by omega
        have hLx : (4096 : Int) ≤ (L.length : Int) := by omega
        go_enter Try.func20, Try.ntmps20
        go_wp2_with (go_at_call 32; refine (hh _).mono ?_; rintro e w' ⟨rfl, rfl⟩; simp only [d1, d2])
        all_goals go_ret
        all_goals exact ⟨rfl, rfl⟩
    · have d2 : decide (0 ≤ to ∧ to < (h : Int)) = false := decide_eq_false ht
      have e5 : sendC h L.length fr to l.length = 1 := by unfold sendC; rw [if_pos (by omega)]
      rw [e5]
      go_enter Try.func20, Try.ntmps20
      go_wp2_with (go_at_call 32; refine (hh _).mono ?_; rintro e w' ⟨rfl, rfl⟩; simp only [d1, d2])
      all_goals go_ret
      all_goals exact ⟨rfl, rfl⟩
  · have d1 : decide (0 ≤ fr ∧ fr < (h : Int)) = false := decide_eq_false hf
    have e5 : sendC h L.length fr to l.length = 1 := by unfold sendC; rw [if_pos (by omega)]
    rw [e5]
    go_enter Try.func20, Try.ntmps20
    go_wp2_with (go_at_call 32; refine (hh _).mono ?_; rintro e w' ⟨rfl, rfl⟩; simp only [d1])
    all_goals go_ret
    all_goals exact ⟨rfl, rfl⟩
set_option maxHeartbeats 2000000 in
theorem copy_no (B X h s : Nat) (v : Value) (L : List Pk) (i : Int) (hi : ¬ (0 ≤ i ∧ i < L.length ∧ L.length < 4096)) (w : World) (hn : NetInv w B X v h L s) :
    Calls Try.prog 21 #[.pointer (some ⟨X, 0, none⟩), .int .i64 i] w fun e w' => e = .returned (.bool false) ∧ w = w' := by
  have hh := has_any B X h s v L i w hn
  obtain ⟨A, c, rfl, hc1, hc2⟩ := hn.parts
  have hx0 : w.cell? ⟨X, 1, none⟩ = some (.slice A L.length c) := hn.mem.cell 1
  by_cases hf : 0 ≤ i ∧ i < L.length
  · have d1 : decide (0 ≤ i ∧ i < (L.length : Int)) = true := decide_eq_true hf
    rw [d1] at hh
    have hLx : (4096 : Int) ≤ (L.length : Int) := by omega
    go_enter Try.func21, Try.ntmps21
    go_wp2_with (go_at_call 30; refine hh.mono ?_; rintro e w' ⟨rfl, rfl⟩)
    all_goals go_ret
    all_goals exact ⟨rfl, rfl⟩
  · rw [decide_eq_false hf] at hh
    go_enter Try.func21, Try.ntmps21
    go_wp2_with (go_at_call 30; refine hh.mono ?_; rintro e w' ⟨rfl, rfl⟩)
    all_goals go_ret
    all_goals exact ⟨rfl, rfl⟩
set_option maxRecDepth 100000 in
set_option maxHeartbeats 2000000 in
theorem copy_ok (B X h s : Nat) (v : Value) (L : List Pk) (i : Nat) (hi : i < L.length) (hL : L.length < 4096) (w : World) (hB : B ≤ w.heap.size) (hn : NetInv w B X v h L s) :
    Calls Try.prog 21 #[.pointer (some ⟨X, 0, none⟩), .int .i64 (i : Nat)] w fun e w' => ∃ d', e = .returned (.bool true) ∧ NetStep w w' B X v h (L ++ [⟨L[i].fr, L[i].to, d', L[i].l⟩]) s := by
  obtain ⟨i0, hi0, hz0, hz1, hz2⟩ := info_parts pk_info
  have hh := has_any B X h s v L i w hn
  rw [decide_eq_true (by omega)] at hh
  obtain ⟨A, c, rfl, hc1, hc2⟩ := hn.parts
  obtain ⟨g, rfl, hBg, hgl, hx1, hx2, hx3⟩ := row_at hn.row hi
  have hmem := List.getElem_mem hi
  have hD := hn.data _ hmem
  generalize L[i] = p at *
  obtain ⟨fr, to, d, l⟩ := p
  simp only at hx1 hx2 hx3 hD ⊢
  have hcl : ∀ W, Below w.heap.size w W → Calls Try.prog 31 #[.agg #[.int .i64 fr, .int .i64 to, d]] W fun e w' => ∃ A1 c1, e = .returned (.agg #[.int .i64 fr, .int .i64 to, .slice A1 l.length c1]) ∧ DOk w' B ⟨fr, to, .slice A1 l.length c1, l⟩ ∧ Below w.heap.size w w' := by
    intro W hW
    refine (clone_any fr to d l hD.2 W (hD.sl.now hW)).mono ?_
    rintro e w' ⟨d', rfl, ho, hb⟩
    obtain ⟨A1, c1, rfl, _⟩ := own_form ho
    exact ⟨A1, c1, rfl, ⟨owns_mono ho (Nat.le_trans hB hW.size), hD.2⟩, hW.trans (hb.mono hW.size)⟩
  obtain ⟨Ad, cd, hdv, _⟩ := own_form hD.1
  simp only at hdv
  subst hdv
  have hcell : ∀ W, Below w.heap.size w W → W.cell? ⟨X, 1, none⟩ = some (.slice (some ⟨g, 0, none⟩) L.length c) := fun W hW => (hn.below hW).mem.cell 1
  have hx0 := hcell w (Below.refl _ _)
  have hxd := hcell w.drew ((Below.refl _ _).drew)
  have hy1 : w.drew.cell? ⟨g, i * 3, none⟩ = _ := hx1
  have hy2 : w.drew.cell? ⟨g, i * 3 + 1, none⟩ = _ := hx2
  have hy3 : w.drew.cell? ⟨g, i * 3 + 2, none⟩ = _ := hx3
  have hone : ∀ A1 c1, ∀ u ∈ ([.int .i64 fr, .int .i64 to, .slice A1 l.length c1] : List Value), u.oneCell' = true := by
    intro A1 c1 u hu
    simp at hu
    rcases hu with rfl | rfl | rfl <;> rfl
  have hLx : (L.length : Int) < 4096 := by omega
  have hbd : Below w.heap.size w w.drew := (Below.refl _ _).drew
  have b1 : L.length + 1 ≤ maxLen := by unfold maxLen; omega
  have b2 : (L.length + 1) * 40 ≤ 140737488355328 := by omega
  have hownA : ∀ W o, Below w.heap.size w W → (W.alloc o).ownsRow B 41 3 (.slice (some ⟨g, 0, none⟩) L.length c) L.length (flat L) := fun W o hW => owns_below hn.row (hW.alloc hW.size o)
  have hal : ∀ (W : World) o, Below w.heap.size w W → B ≤ (W.alloc o).heap.size := fun W o hW => Nat.le_trans hB (hW.alloc hW.size o).size
  have hcellA : ∀ W, Below w.heap.size w W → ∀ o, (W.alloc o).cell? ⟨X, 1, none⟩ = some (.slice (some ⟨g, 0, none⟩) L.length c) := fun W hW o => hcell _ (hW.alloc hW.size o)
  have F : ∀ (W : World) (v6 : Value) (w6 : World) A1 c1, Below w.heap.size w W → DOk W B ⟨fr, to, .slice A1 l.length c1, l⟩ → w6.ownsRow B 41 3 v6 (L.length + 1) (flat L ++ [.int .i64 fr, .int .i64 to, .slice A1 l.length c1]) →
      (W.alloc (.cells #[.int .i64 fr, .int .i64 to, .slice A1 l.length c1] 41)).grownBy w6 (Value.slice (some ⟨g, 0, none⟩) L.length c).ownBlock →
      ∃ A6 c6, v6 = .slice A6 (L.length + 1) c6 ∧ w6.cell? ⟨X, 1, none⟩ = some (.slice (some ⟨g, 0, none⟩) L.length c) ∧ w6.frozen? ⟨X, 1, none⟩ = false := by
    intro W v6 w6 A1 c1 hW hd' ho hg
    obtain ⟨A6, c6, rfl, _⟩ := own_form ho
    have hWa := hW.alloc hW.size (.cells #[.int .i64 fr, .int .i64 to, .slice A1 l.length c1] 41)
    have hm6 := (hn.below hWa).mem.eff (eff_grown hg) hn.apart
    exact ⟨A6, c6, rfl, hm6.cell 1, hm6.free 1⟩
  go_enter Try.func21, Try.ntmps21
  go_wp2_with (go_at_call 30; refine hh.mono ?_; rintro e w' ⟨rfl, rfl⟩)
  go_region_law (first
    | (rw [if_pos (by rfl)]; with_reducible refine wp_append_at _ (.tmp 21) (.tmp 30) _ rfl B 41 i0 _ 3 40 Try.underlying56 hi0 hz0 hz1 hz2 rfl (by decide) (.slice (some ⟨g, 0, none⟩) L.length c) L.length (flat L) rfl (hownA _ _ hb5) ⟨w5.heap.size, 0, none⟩ 1 1 [.int .i64 fr, .int .i64 to, .slice A1 l.length c1] rfl rfl (cells_new3 _ _ _ _ _) (hone _ _) b1 b2 (hal _ _ hb5) ?_; intro v6 w6 ho6 hg6 hat6; obtain ⟨A6, c6, rfl, hx6, hf6⟩ := F _ _ _ _ _ hb5 hd5 ho6 hg6)
    | (rw [if_pos (by rfl)]; go_simp; go_at_call 31; with_reducible refine (hcl _ hbd).mono ?_; rintro e w5 ⟨A1, c1, rfl, hd5, hb5⟩; have hx5 := hcell w5 hb5; have hx5a := hcellA w5 hb5; dsimp only))
  all_goals (go_wp2_with fail)
  all_goals go_ret
  all_goals
    have hWa := hb5.alloc hb5.size (.cells #[.int .i64 fr, .int .i64 to, .slice A1 l.length c1] 41)
    obtain ⟨_, h7, _, e7, k7⟩ := net_pushed (p := ⟨fr, to, .slice A1 l.length c1, l⟩) hn hB hL hWa (hd5.below ((Below.refl _ _).alloc (Nat.le_refl _) _)) ho6 hg6 hat6 0
    exact ⟨_, rfl, _, h7, e7, k7⟩
end Go.Proofs.Ytmlimmcaidkoeaa
