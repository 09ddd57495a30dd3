/- The document's timers: Stop: contract. -/
import Derived.Test.YtohbkepjbaigdaaTr2
namespace Go.Proofs.Ytohbkepjbaigdaa
open Go.ChangeShapes Go.WideShapes Go.ChangeAt Go.RowKit Go.Lib
set_option linter.unusedVariables false
theorem rstop_no (B R : Nat) (u : Value) (L : List One) (now id : Int) (w : World) (hl : L.length ≤ 1000) (hn : RInv w B R u L now) (hi : rhas L id = false) :
    Calls Try.prog 13 #[.pointer (some ⟨R, 0, none⟩), .int .i64 id] w fun e w' => e = .returned (.bool false) ∧ Below w.heap.size w w' := by
  have hp := at_any B R u L now id w hl hn
  rw [hi] at hp
  go_enter Try.func13, Try.ntmps13
  go_wp2_with (go_at_call 26; (with_reducible refine hp.mono ?_); rintro e w1 ⟨rfl, hb1⟩)
  go_ret
  exact ⟨rfl, hb1⟩
set_option maxRecDepth 100000 in
set_option maxHeartbeats 1000000 in
theorem rstop_ok (B R : Nat) (u : Value) (L : List One) (now id : Int) (w : World) (hl : L.length ≤ 256) (hBw : B ≤ w.heap.size) (hn : RInv w B R u L now) (hi : rhas L id = true) :
    Calls Try.prog 13 #[.pointer (some ⟨R, 0, none⟩), .int .i64 id] w fun e w' => e = .returned (.bool true) ∧ RStep w w' B R u (L.eraseIdx (rk L id)) now := by
  obtain ⟨i0, hi0, hz0, hz1, hz2⟩ := info_parts tmr_info
  have hp := at_any B R u L now id w (by omega) hn
  rw [hi] at hp
  have hlt : rk L id < L.length := (of_decide_eq_true hi).1
  obtain ⟨A, c, rfl, hc1, hc2⟩ := hn.parts
  obtain ⟨g, rfl, hBg, hgX⟩ := hn.at_ hlt
  have hlx : (L.length : Int) ≤ 256 := by omega
  have hF : ∀ W, Below w.heap.size w W → W.cell? ⟨R, 0, none⟩ = some (.slice (some ⟨g, 0, none⟩) L.length c) ∧ W.frozen? ⟨R, 0, none⟩ = false := fun W hW => ⟨(hn.below hW).mem.cell 0, (hn.below hW).mem.free 0⟩
  clear hi
  generalize rk L id = m at *
  have hmx : (m : Int) < (L.length : Int) := by omega
  have hsrc : Hid (∀ W, Below w.heap.size w W → (∀ ad, some (⟨g, 0, none⟩ : Addr) = some ad → ∀ j u, ((tflat L).take (m * 2))[j]? = some u → W.cell? (ad.add j) = some u) ∧ (∀ ad, some (⟨g, (m + 1) * 2, none⟩ : Addr) = some ad → ∀ j u, ((tflat L).drop ((m + 1) * 2))[j]? = some u → W.cell? (ad.add j) = some u)) := Lib.hid fun W hW => by
    have hr := own_cells (hn.below hW).row
    refine ⟨?_, ?_⟩
    · rintro ad h j u hu
      obtain rfl := Option.some.inj h
      rw [add_plain, Nat.zero_add]
      rw [List.getElem?_take] at hu
      split at hu
      · exact hr j u hu
      · cases hu
    · rintro ad h j u hu
      obtain rfl := Option.some.inj h
      rw [add_plain]
      rw [List.getElem?_drop] at hu
      exact hr _ u hu
  have hl1 : Hid (((tflat L).take (m * 2)).length = m * 2) := Lib.hid (by rw [List.length_take, tflat_len]; omega)
  have hl2 : Hid (((tflat L).drop ((m + 1) * 2)).length = (L.length - (m + 1)) * 2) := Lib.hid (by rw [List.length_drop, tflat_len]; omega)
  have ho1 : Hid (∀ u ∈ (tflat L).take (m * 2), u.oneCell' = true) := Lib.hid fun u hu => tflat_one L u (List.mem_of_mem_take hu)
  have ho2 : Hid (∀ u ∈ (tflat L).drop ((m + 1) * 2), u.oneCell' = true) := Lib.hid fun u hu => tflat_one L u (List.mem_of_mem_drop hu)
  have b1 : m ≤ maxLen := by unfold maxLen; omega
  have b2 : m * 16 ≤ 140737488355328 := by omega
  have b5 : m + (L.length - (m + 1)) ≤ maxLen := by unfold maxLen; omega
  have b6 : (m + (L.length - (m + 1))) * 16 ≤ 140737488355328 := by omega
  have F1 : ∀ (w1 w4 : World) o, Below w.heap.size w w1 → Below (w1.alloc o).heap.size (w1.alloc o) w4 → Below w.heap.size w w4 ∧ w1.heap.size ≤ w4.heap.size := fun w1 w4 o h1 h4 => by
    have ha := (Below.refl w1.heap.size w1).alloc (Nat.le_refl _) o
    have h5 := ha.trans (h4.mono ha.size)
    exact ⟨h1.trans (h5.mono h1.size), h5.size⟩
  have F3 : ∀ (w1 w4 w7 : World) A4 c4, Below w.heap.size w w1 → Below w.heap.size w w4 → w4.ownsRow w1.heap.size 56 2 (.slice A4 m c4) m ((tflat L).take (m * 2)) → w4.grownBy w7 (Value.slice A4 m c4).ownBlock → Below w.heap.size w w7 := fun w1 w4 w7 A4 c4 h1 h4 ho hg => h4.grown hg h4.size (fun k hk => Nat.le_trans h1.size (ho.lt k hk).1)
  have F4 : ∀ (w1 w7 : World) v7, Below w.heap.size w w1 → Below w.heap.size w w7 → w7.ownsRow w1.heap.size 56 2 v7 (m + (L.length - (m + 1))) ((tflat L).take (m * 2) ++ (tflat L).drop ((m + 1) * 2)) → RStep w (w7.setCell ⟨R, 0, none⟩ v7) B R (.slice (some ⟨g, 0, none⟩) L.length c) (L.eraseIdx m) now := fun w1 w7 v7 h1 h7 ho => by
    refine r_put hn hBw h7 (owns_mono ?_ h1.size)
    have e1 : (L.eraseIdx m).length = m + (L.length - (m + 1)) := by rw [List.length_eraseIdx, if_pos hlt]; omega
    have e2 : tflat (L.eraseIdx m) = (tflat L).take (m * 2) ++ (tflat L).drop ((m + 1) * 2) := by
      rw [List.eraseIdx_eq_take_drop_succ, tflat_app, tflat_take, tflat_drop]
    rw [e1, e2]
    exact ho
  clear hn
  have hm1 : ((m + 1 : Nat) : Int) = (m : Int) + 1 := by omega
  have hcx : (m : Int) ≤ (c : Int) := by omega
  have hnc : (L.length : Int) ≤ (c : Int) := by omega
  have hcm : (c : Int) ≤ 9223372036854775807 := by unfold maxLen at hc2; omega
  generalize hq : m + 1 = q at *
  have hqx : (q : Int) ≤ (L.length : Int) := by omega
  have hqm : (m : Int) + 1 = (q : Int) := by omega
  have HQ := Lib.hid hq
  clear hq hm1
  by_cases hml : q < L.length
  · have hmlx : (q : Int) < (L.length : Int) := by omega
    have hmc : (q : Int) < (c : Int) := by omega
    go_enter Try.func13, Try.ntmps13
    go_wp2_with (first
      | (go_at_call 26; (with_reducible refine hp.mono ?_); rintro e w1 ⟨rfl, hb1⟩; obtain ⟨kx1, kx2⟩ := hF w1 hb1; have kxA := fun o => Lib.cell?_alloc_some o kx1)
      | (at_builtin; (refine wpList_append_empty _ rfl (.tmp 15) (.tmp 21) _ rfl w1.heap.size 56 i0 _ 2 16 Try.underlying27 hi0 hz0 hz1 hz2 rfl (by decide) w1.heap.size rfl (Mem.new w1 _ _) (Nat.le_refl _) (some ⟨g, 0, none⟩) m c ((tflat L).take (m * 2)) rfl hl1.out (hsrc.out _ (hb1.alloc hb1.size _)).1 (by intro h; cases h) ho1.out b1 b2 (by simp) ?_); intro v4 w4 ho4 hb4; obtain ⟨hb4w, hs4⟩ := F1 _ _ _ hb1 hb4; obtain ⟨A4, c4, rfl, _, _⟩ := own_form ho4; obtain ⟨kx4, kz4⟩ := hF w4 hb4w)
      | (at_builtin; (refine wpList_append_any _ rfl (.tmp 24) (.tmp 31) _ rfl w1.heap.size 56 i0 _ 2 16 Try.underlying27 hi0 hz0 hz1 hz2 rfl (by decide) (.slice A4 m c4) m ((tflat L).take (m * 2)) rfl ho4 (some ⟨g, q * 2, none⟩) (L.length - q) (c - q) ((tflat L).drop (q * 2)) rfl hl2.out (hsrc.out _ hb4w).2 (by intro h; cases h) ho2.out b5 b6 hs4 ?_); intro v7 w7 ho7 hg7 hat7; have hb7w := F3 _ _ _ _ _ hb1 hb4w ho4 hg7; obtain ⟨A7, c7, rfl, _, _⟩ := own_form ho7; obtain ⟨kx7, kz7⟩ := hF w7 hb7w; have hfin := F4 _ _ _ hb1 hb7w ho7))
    go_ret
    exact ⟨rfl, hfin⟩
  · obtain rfl : L.length = q := by omega
    have F5 : ∀ (w1 w7 : World) v7, Below w.heap.size w w1 → Below w.heap.size w w7 → w7.ownsRow w1.heap.size 56 2 v7 (m + 0) ((tflat L).take (m * 2) ++ []) → RStep w (w7.setCell ⟨R, 0, none⟩ v7) B R (.slice (some ⟨g, 0, none⟩) L.length c) (L.eraseIdx m) now := fun w1 w7 v7 h1 h7 ho => F4 w1 w7 v7 h1 h7 (by
      have e : (tflat L).drop (L.length * 2) = [] := List.drop_of_length_le (by rw [tflat_len]; exact Nat.le_refl _)
      rw [e, Nat.sub_self]
      exact ho)
    clear hml F4 hl2 ho2
    by_cases hcn : L.length = c
    · subst hcn
      go_enter Try.func13, Try.ntmps13
      go_wp2_with (first
        | (go_at_call 26; (with_reducible refine hp.mono ?_); rintro e w1 ⟨rfl, hb1⟩; obtain ⟨kx1, kx2⟩ := hF w1 hb1; have kxA := fun o => Lib.cell?_alloc_some o kx1)
        | (at_builtin; (refine wpList_append_empty _ rfl (.tmp 15) (.tmp 21) _ rfl w1.heap.size 56 i0 _ 2 16 Try.underlying27 hi0 hz0 hz1 hz2 rfl (by decide) w1.heap.size rfl (Mem.new w1 _ _) (Nat.le_refl _) (some ⟨g, 0, none⟩) m L.length ((tflat L).take (m * 2)) rfl hl1.out (hsrc.out _ (hb1.alloc hb1.size _)).1 (by intro h; cases h) ho1.out b1 b2 (by simp) ?_); intro v4 w4 ho4 hb4; obtain ⟨hb4w, hs4⟩ := F1 _ _ _ hb1 hb4; obtain ⟨A4, c4, rfl, _, _⟩ := own_form ho4; obtain ⟨kx4, kz4⟩ := hF w4 hb4w)
        | (at_builtin; (refine wpList_append_any _ rfl (.tmp 24) (.tmp 31) _ rfl w1.heap.size 56 i0 _ 2 16 Try.underlying27 hi0 hz0 hz1 hz2 rfl (by decide) (.slice A4 m c4) m ((tflat L).take (m * 2)) rfl ho4 _ 0 _ [] rfl rfl (by intro ad _ j u hu; simp at hu) (by intro _; rfl) (by simp) b1 b2 hs4 ?_); intro v7 w7 ho7 hg7 hat7; have hb7w := F3 _ _ _ _ _ hb1 hb4w ho4 hg7; obtain ⟨A7, c7, rfl, _, _⟩ := own_form ho7; obtain ⟨kx7, kz7⟩ := hF w7 hb7w; have hfin := F5 _ _ _ hb1 hb7w ho7))
      go_ret
      exact ⟨rfl, hfin⟩
    · have hcn2 : (L.length : Int) < (c : Int) := by omega
      go_enter Try.func13, Try.ntmps13
      go_wp2_with (first
        | (go_at_call 26; (with_reducible refine hp.mono ?_); rintro e w1 ⟨rfl, hb1⟩; obtain ⟨kx1, kx2⟩ := hF w1 hb1; have kxA := fun o => Lib.cell?_alloc_some o kx1)
        | (at_builtin; (refine wpList_append_empty _ rfl (.tmp 15) (.tmp 21) _ rfl w1.heap.size 56 i0 _ 2 16 Try.underlying27 hi0 hz0 hz1 hz2 rfl (by decide) w1.heap.size rfl (Mem.new w1 _ _) (Nat.le_refl _) (some ⟨g, 0, none⟩) m c ((tflat L).take (m * 2)) rfl hl1.out (hsrc.out _ (hb1.alloc hb1.size _)).1 (by intro h; cases h) ho1.out b1 b2 (by simp) ?_); intro v4 w4 ho4 hb4; obtain ⟨hb4w, hs4⟩ := F1 _ _ _ hb1 hb4; obtain ⟨A4, c4, rfl, _, _⟩ := own_form ho4; obtain ⟨kx4, kz4⟩ := hF w4 hb4w)
        | (at_builtin; (refine wpList_append_any _ rfl (.tmp 24) (.tmp 31) _ rfl w1.heap.size 56 i0 _ 2 16 Try.underlying27 hi0 hz0 hz1 hz2 rfl (by decide) (.slice A4 m c4) m ((tflat L).take (m * 2)) rfl ho4 _ 0 _ [] rfl rfl (by intro ad _ j u hu; simp at hu) (by intro _; rfl) (by simp) b1 b2 hs4 ?_); intro v7 w7 ho7 hg7 hat7; have hb7w := F3 _ _ _ _ _ hb1 hb4w ho4 hg7; obtain ⟨A7, c7, rfl, _, _⟩ := own_form ho7; obtain ⟨kx7, kz7⟩ := hF w7 hb7w; have hfin := F5 _ _ _ hb1 hb7w ho7))
      go_ret
      exact ⟨rfl, hfin⟩
end Go.Proofs.Ytohbkepjbaigdaa
