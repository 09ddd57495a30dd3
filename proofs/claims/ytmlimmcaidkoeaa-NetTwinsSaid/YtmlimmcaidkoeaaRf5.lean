/- The document's network: Copy: contract. -/
import Derived.Test.YtmlimmcaidkoeaaRf4
namespace Go.Proofs.Ytmlimmcaidkoeaa
open Go.ChangeShapes Go.WideShapes Go.ChangeAt Go.RowKit Go.Lib
set_option linter.unusedVariables false
theorem cells_at3 {w : World} {g t : Nat} {a b c : Value} (h : Mem w g t #[a, b, c]) : ∀ j u, [a, b, c][j]? = some u → w.cell? ((⟨g, 0, none⟩ : Addr).add j) = some u := by
  intro j u hu
  rw [add_plain, Nat.zero_add, h.cell j, ← List.getElem?_toArray] at *
  exact hu
set_option maxRecDepth 100000 in
set_option maxHeartbeats 4000000 in
theorem rcopy_ok (B R h s : Nat) (u : Value) (M : List Ab) (i : Nat) (hi : i < M.length) (hL : M.length < 4096) (w : World) (hB : B ≤ w.heap.size) (hn : RefInv w B R u h M s) :
    Calls Try.prog 27 #[.pointer (some ⟨R, 0, none⟩), .int .i64 (i : Nat)] w fun e w' => e = .returned (.bool true) ∧ RefStep w w' B R u h (M ++ [M[i]]) s := by
  obtain ⟨i0, hi0, hz0, hz1, hz2⟩ := info_parts rpk_info
  have hat := at_ok B R h s u M i hi w hn
  obtain ⟨A, c, rfl, hc1, hc2⟩ := hn.parts
  obtain ⟨g, rfl, hBg, hgl, _⟩ := rrow_at hn.row hi
  have hsz := hn.sizes M[i] (List.getElem_mem hi)
  obtain ⟨p, hp⟩ : ∃ p, M[i] = p := ⟨_, rfl⟩
  rw [hp] at hat hsz ⊢
  clear hp
  obtain ⟨fr, to, l⟩ := p
  unfold Ab.val str at hat
  simp only at hat hsz
  have hMl : (M.length : Int) < 4096 := by omega
  have F : ∀ w1, Below w.heap.size w w1 →
      (∀ W, Below (w1.heap.size + 1) (w1.alloc (.cells #[.int .i64 fr, .int .i64 to, .string ⟨l.toArray⟩] 46)) W → Below w.heap.size w W ∧ W.cell? ⟨R, 1, none⟩ = some (.slice (some ⟨g, 0, none⟩) M.length c) ∧ W.frozen? ⟨R, 1, none⟩ = false ∧ W.cell? ⟨w1.heap.size, 0, none⟩ = some (.int .i64 fr) ∧ W.cell? ⟨w1.heap.size, 1, none⟩ = some (.int .i64 to) ∧ W.cell? ⟨w1.heap.size, 2, none⟩ = some (.string ⟨l.toArray⟩)) := by
    intro w1 hb W hW
    have hbW : Below w.heap.size w W := (hb.alloc hb.size _).trans (hW.mono (by have := hb.size; omega))
    have hm := (Mem.new w1 46 #[.int .i64 fr, .int .i64 to, .string ⟨l.toArray⟩]).below hW (by omega)
    exact ⟨hbW, (hn.below hbW).mem.cell 1, (hn.below hbW).mem.free 1, hm.cell 0, hm.cell 1, hm.cell 2⟩
  have hsrc : Hid (∀ W, Below w.heap.size w W → ∀ t u, (rflat M)[t]? = some u → W.cell? ((⟨g, 0, none⟩ : Addr).add t) = some u) := Lib.hid fun W hW t u hu => by
    rw [add_plain, Nat.zero_add]
    exact own_cells (owns_below hn.row hW) t u hu
  go_enter Try.func27, Try.ntmps27
  go_wp2_with (go_at_call 29; (refine hat.mono ?_); rintro e w1 ⟨rfl, hb1⟩; have hF := F _ hb1; obtain ⟨_, hx1, _, hy1, hy2, hy3⟩ := hF _ (Below.refl _ _))
  have hGK : (w1.alloc (.cells #[.int .i64 fr, .int .i64 to, .string ⟨l.toArray⟩] 46)).heap.size = w1.heap.size + 1 := by simp
  have hwG : w.heap.size ≤ w1.heap.size := hb1.size
  rw [← hGK] at hF
  generalize w1.alloc (.cells #[.int .i64 fr, .int .i64 to, .string ⟨l.toArray⟩] 46) = W0 at *
  generalize w1.heap.size = G at *
  have hbd : Below W0.heap.size W0 W0.drew := (Below.refl _ _).drew
  have hba : ∀ W o, Below W0.heap.size W0 W → Below W0.heap.size W0 (W.alloc o) := fun W o h => h.alloc h.size o
  have oA : ((W0.alloc (.cells #[] 46)).drew).ownsRow W0.heap.size 46 3 (.slice (some ⟨W0.heap.size, 0, none⟩) 0 0) 0 [] := own_empty W0 W0.heap.size 46 3 (Nat.le_refl _)
  have oB : ∀ o, (((W0.alloc (.cells #[] 46)).alloc o).drew).ownsRow W0.heap.size 46 3 (.slice (some ⟨W0.heap.size, 0, none⟩) 0 0) 0 [] := fun o => (own_empty W0 W0.heap.size 46 3 (Nat.le_refl _)).alloc o
  have oC : (((W0.alloc (.cells #[.int .i64 fr, .int .i64 to, .string ⟨l.toArray⟩] 46)).alloc (.cells #[] 46)).drew).ownsRow W0.heap.size 46 3 (.slice (some ⟨W0.heap.size + 1, 0, none⟩) 0 0) 0 [] := by
    have := own_empty (W0.alloc (.cells #[.int .i64 fr, .int .i64 to, .string ⟨l.toArray⟩] 46)) W0.heap.size 46 3 (by simp)
    rwa [show (W0.alloc (.cells #[.int .i64 fr, .int .i64 to, .string ⟨l.toArray⟩] 46)).heap.size = W0.heap.size + 1 by simp] at this
  have bA : Below W0.heap.size W0 ((W0.alloc (.cells #[] 46)).drew) := (hba _ (.cells #[] 46) (Below.refl _ _)).drew
  have bB : Below W0.heap.size W0 (((W0.alloc (.cells #[] 46)).alloc (.cells #[.int .i64 fr, .int .i64 to, .string ⟨l.toArray⟩] 46)).drew) := (hba _ (.cells #[.int .i64 fr, .int .i64 to, .string ⟨l.toArray⟩] 46) (hba _ (.cells #[] 46) (Below.refl _ _))).drew
  have bP : Below W0.heap.size W0 ((W0.alloc (.cells #[.int .i64 fr, .int .i64 to, .string ⟨l.toArray⟩] 46)).drew) := (hba _ (.cells #[.int .i64 fr, .int .i64 to, .string ⟨l.toArray⟩] 46) (Below.refl _ _)).drew
  have bC : Below W0.heap.size W0 (((W0.alloc (.cells #[.int .i64 fr, .int .i64 to, .string ⟨l.toArray⟩] 46)).alloc (.cells #[] 46)).drew) := (hba _ (.cells #[] 46) (hba _ (.cells #[.int .i64 fr, .int .i64 to, .string ⟨l.toArray⟩] 46) (Below.refl _ _))).drew
  have mB : Mem (((W0.alloc (.cells #[] 46)).alloc (.cells #[.int .i64 fr, .int .i64 to, .string ⟨l.toArray⟩] 46)).drew) (W0.heap.size + 1) 46 #[.int .i64 fr, .int .i64 to, .string ⟨l.toArray⟩] := by
    have := Mem.new (W0.alloc (.cells #[] 46)) 46 #[.int .i64 fr, .int .i64 to, .string ⟨l.toArray⟩]
    rwa [show (W0.alloc (.cells #[] 46)).heap.size = W0.heap.size + 1 by simp] at this
  have mC : Mem (((W0.alloc (.cells #[.int .i64 fr, .int .i64 to, .string ⟨l.toArray⟩] 46)).alloc (.cells #[] 46)).drew) W0.heap.size 46 #[.int .i64 fr, .int .i64 to, .string ⟨l.toArray⟩] := (Mem.new W0 46 #[.int .i64 fr, .int .i64 to, .string ⟨l.toArray⟩]).alloc _
  have hlen := (rflat_len M)
  have hone := rflat_one M
  have hone3 : ∀ u ∈ ([.int .i64 fr, .int .i64 to, .string ⟨l.toArray⟩] : List Value), u.oneCell' = true := by
    intro u hu
    simp at hu
    rcases hu with rfl | rfl | rfl <;> rfl
  have b1 : 0 + M.length ≤ maxLen := by unfold maxLen; omega
  have b2 : (0 + M.length) * 32 ≤ 140737488355328 := by omega
  have b3 : M.length + 1 ≤ maxLen := by unfold maxLen; omega
  have b4 : (M.length + 1) * 32 ≤ 140737488355328 := by omega
  have F4 : ∀ (Wx : World) v4 (w4 : World) row, Below W0.heap.size W0 Wx → w4.ownsRow W0.heap.size 46 3 v4 (0 + M.length) ([] ++ rflat M) → Wx.grownBy w4 row → (∀ k, row = some k → W0.heap.size ≤ k) → ∃ A4 c4, v4 = .slice A4 M.length c4 ∧ w4.ownsRow W0.heap.size 46 3 (.slice A4 M.length c4) M.length (rflat M) ∧ Below W0.heap.size W0 w4 := by
    intro Wx v4 w4 row hb ho hg hr
    rw [Nat.zero_add, List.nil_append] at ho
    obtain ⟨A4, c4, rfl, _⟩ := own_form ho
    exact ⟨A4, c4, rfl, ho, hb.grown hg hb.size hr⟩
  have F6 : ∀ (Wx : World) v6 (w6 : World) A4 c4, Below W0.heap.size W0 Wx → Wx.ownsRow W0.heap.size 46 3 (.slice A4 M.length c4) M.length (rflat M) → w6.ownsRow W0.heap.size 46 3 v6 (M.length + 1) (rflat M ++ [.int .i64 fr, .int .i64 to, .string ⟨l.toArray⟩]) → Wx.grownBy w6 (Value.slice A4 M.length c4).ownBlock → ∃ A6 c6, v6 = .slice A6 (M.length + 1) c6 ∧ w6.ownsRow W0.heap.size 46 3 (.slice A6 (M.length + 1) c6) (M.length + 1) (rflat M ++ [.int .i64 fr, .int .i64 to, .string ⟨l.toArray⟩]) ∧ Below W0.heap.size W0 w6 ∧ w6.cell? ⟨R, 1, none⟩ = some (.slice (some ⟨g, 0, none⟩) M.length c) ∧ w6.frozen? ⟨R, 1, none⟩ = false := by
    intro Wx v6 w6 A4 c4 hb ho4 ho hg
    obtain ⟨A6, c6, rfl, _⟩ := own_form ho
    have hb6 := hb.grown hg hb.size (fun k hk => (ho4.lt k hk).1)
    obtain ⟨_, q1, q2, _⟩ := hF _ hb6
    exact ⟨A6, c6, rfl, ho, hb6, q1, q2⟩
  obtain ⟨_, q0, _, q1, q2, q3⟩ := hF _ hbd
  obtain ⟨_, qa0, _, qa1, qa2, qa3⟩ := hF _ bA
  obtain ⟨_, qb0, _, qb1, qb2, qb3⟩ := hF _ bB
  obtain ⟨_, qp0, _, qp1, qp2, qp3⟩ := hF _ bP
  obtain ⟨_, qc0, _, qc1, qc2, qc3⟩ := hF _ bC
  have rA : ∀ k, (Value.slice (some ⟨W0.heap.size, 0, none⟩) 0 0).ownBlock = some k → W0.heap.size ≤ k := fun k hk => by simp [Value.ownBlock] at hk; omega
  have rC : ∀ k, (Value.slice (some ⟨W0.heap.size + 1, 0, none⟩) 0 0).ownBlock = some k → W0.heap.size ≤ k := fun k hk => by simp [Value.ownBlock] at hk; omega
  have sB : ∀ w4, (((W0.alloc (.cells #[] 46)).alloc (.cells #[.int .i64 fr, .int .i64 to, .string ⟨l.toArray⟩] 46)).drew).grownBy w4 (Value.slice (some ⟨W0.heap.size, 0, none⟩) 0 0).ownBlock → ∀ j u, ([.int .i64 fr, .int .i64 to, .string ⟨l.toArray⟩] : List Value)[j]? = some u → w4.cell? ((⟨W0.heap.size + 1, 0, none⟩ : Addr).add j) = some u := fun w4 hg => cells_at3 (mB.eff (eff_grown hg) (by simp [Value.ownBlock]))
  have sC : ∀ w4, (((W0.alloc (.cells #[.int .i64 fr, .int .i64 to, .string ⟨l.toArray⟩] 46)).alloc (.cells #[] 46)).drew).grownBy w4 (Value.slice (some ⟨W0.heap.size + 1, 0, none⟩) 0 0).ownBlock → ∀ j u, ([.int .i64 fr, .int .i64 to, .string ⟨l.toArray⟩] : List Value)[j]? = some u → w4.cell? ((⟨W0.heap.size, 0, none⟩ : Addr).add j) = some u := fun w4 hg => cells_at3 (mC.eff (eff_grown hg) (by simp [Value.ownBlock]))
  have HGK := Lib.hid hGK
  clear hGK
  go_region_law (first
    | (rw [if_pos (by rfl)]; (with_reducible refine wp_append_at _ (.tmp 24) (.tmp 28) _ rfl W0.heap.size 46 i0 _ 3 32 Try.underlying37 hi0 hz0 hz1 hz2 rfl (by decide) (.slice (some ⟨W0.heap.size, 0, none⟩) 0 0) 0 [] rfl oA ⟨g, 0, none⟩ M.length c (rflat M) rfl hlen (hsrc.out _ (hF _ bA).1) hone b1 b2 bA.size ?_); intro v4 w4 ho4 hg4 hat4; obtain ⟨A4, c4, rfl, ho5, hb4⟩ := F4 _ _ _ _ bA ho4 hg4 rA; obtain ⟨_, _, _, qw1, qw2, qw3⟩ := hF _ hb4)
    | (rw [if_pos (by rfl)]; (with_reducible refine wp_append_at _ (.tmp 24) (.tmp 28) _ rfl W0.heap.size 46 i0 _ 3 32 Try.underlying37 hi0 hz0 hz1 hz2 rfl (by decide) (.slice (some ⟨W0.heap.size, 0, none⟩) 0 0) 0 [] rfl (oB _) ⟨g, 0, none⟩ M.length c (rflat M) rfl hlen (hsrc.out _ (hF _ bB).1) hone b1 b2 bB.size ?_); intro v4 w4 ho4 hg4 hat4; obtain ⟨A4, c4, rfl, ho5, hb4⟩ := F4 _ _ _ _ bB ho4 hg4 rA; have hsc := sB _ hg4)
    | (rw [if_pos (by rfl)]; (with_reducible refine wp_append_at _ (.tmp 24) (.tmp 28) _ rfl W0.heap.size 46 i0 _ 3 32 Try.underlying37 hi0 hz0 hz1 hz2 rfl (by decide) (.slice (some ⟨W0.heap.size + 1, 0, none⟩) 0 0) 0 [] rfl oC ⟨g, 0, none⟩ M.length c (rflat M) rfl hlen (hsrc.out _ (hF _ bC).1) hone b1 b2 bC.size ?_); intro v4 w4 ho4 hg4 hat4; obtain ⟨A4, c4, rfl, ho5, hb4⟩ := F4 _ _ _ _ bC ho4 hg4 rC; have hsc := sC _ hg4)
    | (rw [if_pos (by rfl)]; (with_reducible refine wp_append_at _ (.tmp 29) (.tmp 31) _ rfl W0.heap.size 46 i0 _ 3 32 Try.underlying37 hi0 hz0 hz1 hz2 rfl (by decide) (.slice A4 M.length c4) M.length (rflat M) rfl (ho5.alloc _) ⟨w4.heap.size, 0, none⟩ 1 1 [.int .i64 fr, .int .i64 to, .string ⟨l.toArray⟩] rfl rfl (cells_new3 _ _ _ _ _) hone3 b3 b4 (hba _ _ hb4).size ?_); intro v6 w6 ho6 hg6 hat6; obtain ⟨A6, c6, rfl, ho7, hb6, hx6, hf6⟩ := F6 _ _ _ _ _ (hba _ _ hb4) (ho5.alloc _) ho6 hg6)
    | (rw [if_pos (by rfl)]; (with_reducible refine wp_append_at _ (.tmp 29) (.tmp 31) _ rfl W0.heap.size 46 i0 _ 3 32 Try.underlying37 hi0 hz0 hz1 hz2 rfl (by decide) (.slice A4 M.length c4) M.length (rflat M) rfl ho5 ⟨W0.heap.size + 1, 0, none⟩ 1 1 [.int .i64 fr, .int .i64 to, .string ⟨l.toArray⟩] rfl rfl hsc hone3 b3 b4 hb4.size ?_); intro v6 w6 ho6 hg6 hat6; obtain ⟨A6, c6, rfl, ho7, hb6, hx6, hf6⟩ := F6 _ _ _ _ _ hb4 ho5 ho6 hg6)
    | (rw [if_pos (by rfl)]; (with_reducible refine wp_append_at _ (.tmp 29) (.tmp 31) _ rfl W0.heap.size 46 i0 _ 3 32 Try.underlying37 hi0 hz0 hz1 hz2 rfl (by decide) (.slice A4 M.length c4) M.length (rflat M) rfl ho5 ⟨W0.heap.size, 0, none⟩ 1 1 [.int .i64 fr, .int .i64 to, .string ⟨l.toArray⟩] rfl rfl hsc hone3 b3 b4 hb4.size ?_); intro v6 w6 ho6 hg6 hat6; obtain ⟨A6, c6, rfl, ho7, hb6, hx6, hf6⟩ := F6 _ _ _ _ _ hb4 ho5 ho6 hg6))
  all_goals (go_wp2_with fail)
  all_goals go_ret
  all_goals
    have hGK := HGK.out
    have hp := ref_put (K := M ++ [⟨fr, to, l⟩]) hn hB (hF _ hb6).1 (owns_mono (by rw [rflat_snoc, List.length_append]; exact ho7) (by omega)) (by simp; omega) (fun p hp => by
      rw [List.mem_append, List.mem_singleton] at hp
      rcases hp with hp | rfl
      · exact hn.sizes p hp
      · exact hsz)
    exact ⟨rfl, _, hp.1, hp.2, fun k hk => .inr (by have := (ho7.lt k hk).1; omega)⟩
end Go.Proofs.Ytmlimmcaidkoeaa
