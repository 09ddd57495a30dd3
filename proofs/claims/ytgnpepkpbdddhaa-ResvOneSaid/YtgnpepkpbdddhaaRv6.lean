/- Package resv: Preempt: contracts. -/
import Derived.Test.YtgnpepkpbdddhaaRv5
import Derived.BigQuiet
import Derived.Deep.QuietTactic
namespace Go.Proofs.Ytgnpepkpbdddhaa
open Go.ChangeShapes Go.WideShapes Go.ChangeAt Go.RowKit Go.Lib
set_option linter.unusedVariables false
set_option linter.unusedSimpArgs false
namespace Rv
/-- Keys taken. -/
def RT.drop (t : RT) (L : List (Nat × Int)) : RT := { t with keys := L.foldl (fun K p => K.set p.1 0) t.keys }
theorem drop_snoc (t : RT) (L : List (Nat × Int)) (j : Nat) (hj : j < L.length) : t.drop (L.take (j + 1)) = { t.drop (L.take j) with keys := (t.drop (L.take j)).keys.set L[j].1 0 } := by
  unfold RT.drop
  rw [List.take_succ_eq_append_getElem hj, List.foldl_append]
  rfl
def RT.up (t : RT) : RT := { t with gen := t.gen + 1 }
theorem othTo_lt (t : RT) (host : Int) (key : Nat) (code : Int) : ∀ j, ∀ p ∈ othTo t host key code j, p.1 < j := by
  intro j
  induction j with
  | zero => intro p hp; cases hp
  | succ j ih =>
    intro p hp
    unfold othTo at hp
    split at hp
    · exact Nat.lt_succ_of_lt (ih p hp)
    · rcases List.mem_append.1 hp with h | h
      · exact Nat.lt_succ_of_lt (ih p h)
      · obtain rfl := List.mem_singleton.1 h
        exact Nat.lt_succ_self j
theorem nvs_get (L : List (Nat × Int)) (j : Nat) (hj : j < L.length) : ∀ k u, [Value.int .i64 (L[j].1 : Nat), .int .i64 L[j].2][k]? = some u → (nvs L)[2 * j + k]? = some u := by
  induction L generalizing j with
  | nil => cases hj
  | cons p L ih =>
    intro k u hk
    have hc : nvs (p :: L) = Value.int .i64 (p.1 : Nat) :: .int .i64 p.2 :: nvs L := rfl
    cases j with
    | zero =>
      match k, hk with
      | 0, hk => exact hk
      | 1, hk => exact hk
    | succ j =>
      rw [hc, show 2 * (j + 1) + k = (2 * j + k) + 1 + 1 by omega, List.getElem?_cons_succ, List.getElem?_cons_succ]
      exact ih j (by simpa using hj) k u hk
theorem own_form2 {w : World} {B e sz : Nat} {v : Value} {n : Nat} {xs : List Value} (h : w.ownsRow B e sz v n xs) (h0 : n ≠ 0) : ∃ g c, v = .slice (some ⟨g, 0, none⟩) n c ∧ n ≤ c ∧ c ≤ maxLen ∧ B ≤ g ∧ g < w.heap.size := by
  rcases h.2 with ⟨rfl, hz⟩ | ⟨g, cap, cur, rfl, h1, h2, h3, h4, _⟩
  · exact absurd hz h0
  · exact ⟨g, cap, rfl, h3, h4, h1, (Array.getElem?_eq_some_iff.1 h2).1⟩
theorem note_new {W : World} {Y G : Nat} {t : RT} (h : TabM W Y t) (hG : Mem W G 40 #[Value.int .i64 0, .int .i64 0, .int .i64 0, .slice none 0 0, .int .i64 0]) (a b : Value) : ∃ W2, W2 = (W.alloc (.cells #[.int .i64 0, .int .i64 0] 50)).setRow W.heap.size #[a, b] ∧ TabM W2 Y t ∧ Mem W2 G 40 #[Value.int .i64 0, .int .i64 0, .int .i64 0, .slice none 0 0, .int .i64 0] ∧ Mem W2 W.heap.size 50 #[a, b] ∧ Below W.heap.size W W2 := by
  have h2 := h.mem.lt
  have h3 := hG.lt
  exact ⟨_, rfl, (h.below ((Below.refl _ W).alloc (Nat.le_refl _) _)).far _ (by omega) _, (hG.alloc _).rowFar (by omega) _, (Mem.new W _ _).row _, below_setRow ((Below.refl _ W).alloc (Nat.le_refl _) _) (Nat.le_refl _) _⟩
section
variable {w w' : World} {Y : Nat} {t : RT}
set_option maxRecDepth 100000 in
set_option maxHeartbeats 1000000 in
theorem Preempt_zero (h : TabM w Y t) (i : Nat) (hi : i < 8) (key : Nat) (y : Int) (hrf : Ref Y t (i : Nat) key 0 0 0 false) : Calls Try.prog 18 #[.pointer (some ⟨Y, 0, none⟩), .int .i64 (i : Nat), .int .u64 (key : Nat), .int .u64 0, .int .i64 y] w (Tells w Y t 2 5 9728 []) := by
  have hlt := h.mem.lt
  have hne : Y ≠ w.heap.size := by omega
  have hm0 := Mem.new w 40 #[Value.int .i64 0, .int .i64 0, .int .i64 0, .slice none 0 0, .int .i64 0]
  have hb0 : Below w.heap.size w (w.alloc (.cells #[Value.int .i64 0, .int .i64 0, .int .i64 0, .slice none 0 0, .int .i64 0] 40)) := (Below.refl _ w).alloc (Nat.le_refl _) _
  have h0 := h.below hb0
  unfold Ref at hrf
  go_enter Try.func18, Try.ntmps18
  go_wp2_with (first
    | (go_at_call 33; (with_reducible refine (hrf _ h0).mono ?_); rintro e w1 ⟨rfl, hb1⟩; have h1 := h0.below hb1; have hm1 := hm0.below hb1 hm0.lt; have hbb := hb0.trans (hb1.mono hb0.size))
    | ((refine wpList_store_row rfl 40 (.tmp 12) (.tmp 22) rfl w1.heap.size #[Value.int .i64 0, .int .i64 0, .int .i64 0, .slice none 0 0, .int .i64 0] rfl rfl 40 #[Value.int .i64 0, .int .i64 0, .int .i64 0, .slice none 0 0, .int .i64 0] (Mem.new w1 _ _) (by kernel_rfl) (by kernel_rfl) (by kernel_rfl) ?_); obtain ⟨w2, e2, h2, hm2, hr2, hb2⟩ := row_new h1 hbb hm1 #[Value.int .i64 0, .int .i64 0, .int .i64 0, .slice none 0 0, .int .i64 0]; rw [← e2]; clear e2)
    | (go_at_call 29; (with_reducible refine (wrong_l _ _).mono ?_); rintro e w3 ⟨rfl, hb3⟩; have h5 := h2.below hb3; have hm5 := hm2.below hb3 hm2.lt; have k5 := (Keeps.of (g := Y) hb2).trans (Keeps.of hb3))
    | (refine wpList_store_row rfl 40 (.tmp 10) (.tmp 28) rfl w.heap.size #[Value.int .i64 2, .int .i64 5, .int .i64 9728, .slice none 0 0, .int .i64 0] rfl rfl 40 #[Value.int .i64 0, .int .i64 0, .int .i64 0, .slice none 0 0, .int .i64 0] hm5 (by kernel_rfl) (by kernel_rfl) (by kernel_rfl) ?_))
  obtain ⟨g1, g2⟩ := keeps_row k5 hne h5 #[Value.int .i64 2, .int .i64 5, .int .i64 9728, .slice none 0 0, .int .i64 0]
  exact bodyPost_ret (fin2 (p := 10) (a := 11) rfl _ _ w.heap.size 2 5 9728 rfl (hm5.row _)) rfl ⟨_, rfl, World.ownsRow_nil _ _ _ _, g1, g2⟩
set_option maxRecDepth 100000 in
set_option maxHeartbeats 1000000 in
theorem Preempt_none (h : TabM w Y t) (i : Nat) (hi : i < 8) (key : Nat) (other : Nat) (ho : other ≠ 0) (hL : othTo t (i : Nat) other 10757 8 = []) (y : Int) (hrf : Ref Y t (i : Nat) key 0 0 0 false) : Calls Try.prog 18 #[.pointer (some ⟨Y, 0, none⟩), .int .i64 (i : Nat), .int .u64 (key : Nat), .int .u64 (other : Nat), .int .i64 y] w (Tells w Y t 24 0 0 []) := by
  have hlt := h.mem.lt
  have hne : Y ≠ w.heap.size := by omega
  have hm0 := Mem.new w 40 #[Value.int .i64 0, .int .i64 0, .int .i64 0, .slice none 0 0, .int .i64 0]
  have hb0 : Below w.heap.size w (w.alloc (.cells #[Value.int .i64 0, .int .i64 0, .int .i64 0, .slice none 0 0, .int .i64 0] 40)) := (Below.refl _ w).alloc (Nat.le_refl _) _
  have h0 := h.below hb0
  unfold Ref at hrf
  have hot : ∀ W, TabM W Y t → Calls Try.prog 35 #[.pointer (some ⟨Y, 0, none⟩), .int .i64 (i : Nat), .int .u64 (other : Nat), .int .i64 10757] W fun e w' => ∃ v', e = .returned v' ∧ w'.ownsRow W.heap.size 50 2 v' (othTo t (i : Nat) other 10757 8).length (nvs (othTo t (i : Nat) other 10757 8)) ∧ Below W.heap.size W w' := fun W hW => others_any hW (i : Nat) other 10757
  have z1 : ((other : Int) == 0) = false := beq_eq_false_iff_ne.2 (by omega)
  have z2 : ¬ (other : Int) = 0 := by omega
  have hLl := othTo_len t (i : Nat) other 10757 8
  have hLt := othTo_lt t (i : Nat) other 10757 8
  rw [hL] at hot
  have hot : ∀ W, TabM W Y t → Calls Try.prog 35 #[.pointer (some ⟨Y, 0, none⟩), .int .i64 (i : Nat), .int .u64 (other : Nat), .int .i64 10757] W fun e w' => ∃ v', e = .returned v' ∧ w'.ownsRow W.heap.size 50 2 v' 0 [] ∧ Below W.heap.size W w' := hot
  clear hLl hLt hL ho
  go_enter Try.func18, Try.ntmps18
  go_wp2_with (first
    | (go_at_call 33; (with_reducible refine (hrf _ h0).mono ?_); rintro e w1 ⟨rfl, hb1⟩; have h1 := h0.below hb1; have hm1 := hm0.below hb1 hm0.lt; have hbb := hb0.trans (hb1.mono hb0.size))
    | ((refine wpList_store_row rfl 40 (.tmp 12) (.tmp 22) rfl w1.heap.size #[Value.int .i64 0, .int .i64 0, .int .i64 0, .slice none 0 0, .int .i64 0] rfl rfl 40 #[Value.int .i64 0, .int .i64 0, .int .i64 0, .slice none 0 0, .int .i64 0] (Mem.new w1 _ _) (by kernel_rfl) (by kernel_rfl) (by kernel_rfl) ?_); obtain ⟨w2, e2, h2, hm2, hr2, hb2⟩ := row_new h1 hbb hm1 #[Value.int .i64 0, .int .i64 0, .int .i64 0, .slice none 0 0, .int .i64 0]; rw [← e2]; clear e2)
    | (go_at_call 35; (with_reducible refine (hot _ h2).mono ?_); rintro e w4 ⟨v4, rfl, ho4, hb4⟩; have h4 := h2.below hb4; have hm4 := hm2.below hb4 hm2.lt; have hb5 := hb2.trans (hb4.mono hb2.size); have k4 := Keeps.of (g := Y) hb5; obtain ⟨A4, c4, rfl, hl4, hc4⟩ := own_form ho4)
    | (go_at_call 30; (with_reducible refine (conflict_l _).mono ?_); rintro e w3 ⟨rfl, hb3⟩; have h5 := h4.below hb3; have hm5 := hm4.below hb3 hm4.lt; have k5 := k4.trans (Keeps.of hb3))
    | (refine wpList_store_row rfl 40 (.tmp 10) (.tmp 36) rfl w.heap.size #[Value.int .i64 24, .int .i64 0, .int .i64 0, .slice none 0 0, .int .i64 0] rfl rfl 40 #[Value.int .i64 0, .int .i64 0, .int .i64 0, .slice none 0 0, .int .i64 0] hm5 (by kernel_rfl) (by kernel_rfl) (by kernel_rfl) ?_))
  obtain ⟨g1, g2⟩ := keeps_row k5 hne h5 #[Value.int .i64 24, .int .i64 0, .int .i64 0, .slice none 0 0, .int .i64 0]
  exact bodyPost_ret (fin2 (p := 10) (a := 11) rfl _ _ w.heap.size 24 0 0 rfl (hm5.row _)) rfl ⟨_, rfl, World.ownsRow_nil _ _ _ _, g1, g2⟩
set_option maxRecDepth 100000 in
set_option maxHeartbeats 1000000 in
theorem Preempt_keepA (h : TabM w Y t) (i : Nat) (hi : i < 8) (key : Nat) (other : Nat) (ho : other ≠ 0) (hL : othTo t (i : Nat) other 10757 8 ≠ []) (hn : t.holder = -1) (y : Int) (hg : t.gen ≤ 999999) (hrf : Ref Y t (i : Nat) key 0 0 0 false) : Calls Try.prog 18 #[.pointer (some ⟨Y, 0, none⟩), .int .i64 (i : Nat), .int .u64 (key : Nat), .int .u64 (other : Nat), .int .i64 y] w (Tells w Y (t.drop (othTo t (i : Nat) other 10757 8)).up 0 0 0 (othTo t (i : Nat) other 10757 8)) := by
  have hlt := h.mem.lt
  have hne : Y ≠ w.heap.size := by omega
  have hm0 := Mem.new w 40 #[Value.int .i64 0, .int .i64 0, .int .i64 0, .slice none 0 0, .int .i64 0]
  have hb0 : Below w.heap.size w (w.alloc (.cells #[Value.int .i64 0, .int .i64 0, .int .i64 0, .slice none 0 0, .int .i64 0] 40)) := (Below.refl _ w).alloc (Nat.le_refl _) _
  have h0 := h.below hb0
  unfold Ref at hrf
  have hgx : (t.gen : Int) ≤ 999999 := by omega
  have hot : ∀ W, TabM W Y t → Calls Try.prog 35 #[.pointer (some ⟨Y, 0, none⟩), .int .i64 (i : Nat), .int .u64 (other : Nat), .int .i64 10757] W fun e w' => ∃ v', e = .returned v' ∧ w'.ownsRow W.heap.size 50 2 v' (othTo t (i : Nat) other 10757 8).length (nvs (othTo t (i : Nat) other 10757 8)) ∧ Below W.heap.size W w' := fun W hW => others_any hW (i : Nat) other 10757
  have z1 : ((other : Int) == 0) = false := beq_eq_false_iff_ne.2 (by omega)
  have z2 : ¬ (other : Int) = 0 := by omega
  have hLl := othTo_len t (i : Nat) other 10757 8
  have hLt := othTo_lt t (i : Nat) other 10757 8
  obtain ⟨L, hLe⟩ : ∃ L, L = othTo t (i : Nat) other 10757 8 := ⟨_, rfl⟩
  rw [← hLe] at hot hLl hLt hL ⊢
  have zL : ((L.length : Int) == 0) = false := beq_eq_false_iff_ne.2 (by have := List.length_pos_iff.2 hL; omega)
  have zL2 : ¬ (L.length : Int) = 0 := by have := List.length_pos_iff.2 hL; omega
  have hL0 : L.length ≠ 0 := by have := List.length_pos_iff.2 hL; omega
  clear hL hLe ho
  go_enter Try.func18, Try.ntmps18
  go_wp2_with (first
    | (go_at_call 33; (with_reducible refine (hrf _ h0).mono ?_); rintro e w1 ⟨rfl, hb1⟩; have h1 := h0.below hb1; have hm1 := hm0.below hb1 hm0.lt; have hbb := hb0.trans (hb1.mono hb0.size))
    | ((refine wpList_store_row rfl 40 (.tmp 12) (.tmp 22) rfl w1.heap.size #[Value.int .i64 0, .int .i64 0, .int .i64 0, .slice none 0 0, .int .i64 0] rfl rfl 40 #[Value.int .i64 0, .int .i64 0, .int .i64 0, .slice none 0 0, .int .i64 0] (Mem.new w1 _ _) (by kernel_rfl) (by kernel_rfl) (by kernel_rfl) ?_); obtain ⟨w2, e2, h2, hm2, hr2, hb2⟩ := row_new h1 hbb hm1 #[Value.int .i64 0, .int .i64 0, .int .i64 0, .slice none 0 0, .int .i64 0]; rw [← e2]; clear e2)
    | (go_at_call 35; (with_reducible refine (hot _ h2).mono ?_); rintro e w4 ⟨v4, rfl, ho4, hb4⟩; have h4 := h2.below hb4; have hm4 := hm2.below hb4 hm2.lt; have hb5 := hb2.trans (hb4.mono hb2.size); have k4 := Keeps.of (g := Y) hb5; obtain ⟨g4, c4, rfl, hl4, hc4, hg4, hgl4⟩ := own_form2 ho4 hL0; have x8 := h4.c8; rw [hn] at x8))
  go_quiet (fail)
  go_wp2
  go_loopw [77] (fun s77 wr => ∃ j : Nat, j ≤ L.length ∧ s77 = .int .i64 (j : Nat) ∧ TabM wr Y (t.drop (L.take j)) ∧ Keeps Y w wr ∧ Mem wr w.heap.size 40 #[Value.int .i64 0, .int .i64 0, .int .i64 0, .slice none 0 0, .int .i64 0] ∧ wr.ownsRow w2.heap.size 50 2 (.slice (some ⟨g4, 0, none⟩) L.length c4) L.length (nvs L)) (fun s77 _ => L.length - (intOf s77).toNat)
  case atStart => exact ⟨0, Nat.zero_le _, rfl, ⟨h4.mem, h4.len⟩, ⟨k4.os, k4.tape, k4.output, k4.size, k4.block⟩, hm4, ⟨ho4.1, ho4.2⟩⟩
  case round =>
    obtain ⟨j, hj, rfl, h5, k5, hm5, ho5⟩ := hrel
    by_cases hjl : j < L.length
    · have hjx : (j : Int) < (L.length : Int) := by omega
      have hcl := fun k u hk => own_cells ho5 (2 * j + k) u (nvs_get L j hjl k u hk)
      have c0 : wr.cell? ⟨g4, j * 2, none⟩ = some (.int .i64 (L[j].1 : Nat)) := by have := hcl 0 _ rfl; rwa [show 2 * j + 0 = j * 2 by omega] at this
      have c1 : wr.cell? ⟨g4, j * 2 + 1, none⟩ = some (.int .i64 L[j].2) := by have := hcl 1 _ rfl; rwa [show 2 * j + 1 = j * 2 + 1 by omega] at this
      have hLj := hLt L[j] (List.getElem_mem hjl)
      have hds := drop_snoc t L j hjl
      generalize L[j].1 = a at *
      generalize L[j].2 = b at *
      clear hcl
      have hax : (a : Int) < 8 := by omega
      go_wp2_with (refine wpList_store_row rfl 50 (.tmp 16) (.tmp 80) rfl wr.heap.size #[.int .i64 (a : Nat), .int .i64 b] rfl rfl 50 #[.int .i64 0, .int .i64 0] (Mem.new wr _ _) (by kernel_rfl) (by kernel_rfl) (by kernel_rfl) ?_; obtain ⟨w5, e5, h6, hm6, hr6, hb6⟩ := note_new h5 hm5 (.int .i64 (a : Nat)) (.int .i64 b); rw [← e5]; clear e5; have x0 := hr6.cell 0; have h7 := h6.setKey a 0 hLj; have q6 := h6.mem.free a; have y6 := h6.key a hLj)
      go_region
      go_wp2
      have s5 := hm5.lt
      have s7 := h5.mem.lt
      have n6 : ∀ k, k ≠ Y → k < wr.heap.size → (w5.setCell ⟨Y, a, none⟩ (.int .u64 0)).drew.heap[k]? = wr.heap[k]? := fun k hk hkl => (Below.heap_setCell w5 ⟨Y, a, none⟩ (.int .u64 0) k hk).trans (hb6.block k hkl)
      have hz6 := hb6.size
      refine ⟨⟨j + 1, hjl, by go_num, ?_, ?_, ?_, ?_⟩, by simp [intOf]; omega⟩
      · rw [hds]; exact ⟨h7.mem, h7.len⟩
      · exact ⟨hb6.os.trans k5.os, hb6.tape.trans k5.tape, hb6.output.trans k5.output, by have := k5.size; show w.heap.size ≤ (w5.setCell ⟨Y, a, none⟩ (.int .u64 0)).heap.size; simp; omega, fun k hk hn => (n6 k hn (Nat.lt_of_lt_of_le hk k5.size)).trans (k5.block k hk hn)⟩
      · exact (n6 _ (fun e => hne e.symm) s5).trans hm5
      · exact owns_at ho5 fun k hk => by
          obtain rfl : g4 = k := Option.some.inj hk
          exact n6 g4 (fun e => by have := h2.mem.lt; omega) (own_tag ho5 g4 hk).2.1
    · obtain rfl : j = L.length := by omega
      rw [List.take_length] at h5
      have x10 : wr.cell? ⟨Y, 10, none⟩ = some (.int .u32 (t.gen : Nat)) := h5.c10
      have q10 := h5.mem.free 10
      have h6 : TabM (wr.setCell ⟨Y, 10, none⟩ (.int .u32 ((t.gen : Int) + 1))) Y (t.drop L).up := h5.setGen (t.gen + 1)
      have k6 : Keeps Y w (wr.setCell ⟨Y, 10, none⟩ (.int .u32 ((t.gen : Int) + 1))) := k5.setCell (p := ⟨Y, 10, none⟩) _
      have hm6 := hm5.far (p := ⟨Y, 10, none⟩) (fun e => hne e.symm) (.int .u32 ((t.gen : Int) + 1))
      have s5 := hm5.lt
      go_wp2_with (first
        | (go_at_call 31; (with_reducible refine (good_l _).mono ?_); rintro e w3 ⟨rfl, hb3⟩; have h7 := h6.below hb3; have hm7 := hm6.below hb3 hm6.lt; have k7 := k6.trans (Keeps.of hb3))
        | (refine wpList_store_row rfl 40 (.tmp 10) (.tmp 95) rfl w.heap.size #[Value.int .i64 0, .int .i64 0, .int .i64 0, .slice none 0 0, .int .i64 0] rfl rfl 40 #[Value.int .i64 0, .int .i64 0, .int .i64 0, .slice none 0 0, .int .i64 0] hm7 (by kernel_rfl) (by kernel_rfl) (by kernel_rfl) ?_))
      obtain ⟨g1, g2⟩ := keeps_row k7 hne h7 #[Value.int .i64 0, .int .i64 0, .int .i64 0, .slice none 0 0, .int .i64 0]
      refine bodyPost_ret (fin2 (p := 10) (a := 11) rfl _ _ w.heap.size 0 0 0 rfl (hm7.row _)) rfl ⟨_, rfl, ?_, g1, g2⟩
      have s2 := hb2.size
      have s4 := hm2.lt
      refine owns_mono (owns_at ho5 fun k hk => ?_) s2
      have o1 := own_tag ho5 k hk
      have o2 : k ≠ Y := by have := h2.mem.lt; omega
      have s8 : (wr.setCell ⟨Y, 10, none⟩ (.int .u32 ((t.gen : Int) + 1))).heap.size = wr.heap.size := by simp
      exact (setRow_other w3 w.heap.size k _ (by omega)).trans ((hb3.block k (by omega)).trans (Below.heap_setCell wr ⟨Y, 10, none⟩ _ k o2))
set_option maxRecDepth 100000 in
set_option maxHeartbeats 1000000 in
theorem Preempt_keepB (h : TabM w Y t) (i : Nat) (hi : i < 8) (key : Nat) (other : Nat) (ho : other ≠ 0) (hL : othTo t (i : Nat) other 10757 8 ≠ []) (hn : t.holder = (i : Nat)) (y : Int) (hg : t.gen ≤ 999999) (hrf : Ref Y t (i : Nat) key 0 0 0 false) : Calls Try.prog 18 #[.pointer (some ⟨Y, 0, none⟩), .int .i64 (i : Nat), .int .u64 (key : Nat), .int .u64 (other : Nat), .int .i64 y] w (Tells w Y (t.drop (othTo t (i : Nat) other 10757 8)).up 0 0 0 (othTo t (i : Nat) other 10757 8)) := by
  have hlt := h.mem.lt
  have hne : Y ≠ w.heap.size := by omega
  have hm0 := Mem.new w 40 #[Value.int .i64 0, .int .i64 0, .int .i64 0, .slice none 0 0, .int .i64 0]
  have hb0 : Below w.heap.size w (w.alloc (.cells #[Value.int .i64 0, .int .i64 0, .int .i64 0, .slice none 0 0, .int .i64 0] 40)) := (Below.refl _ w).alloc (Nat.le_refl _) _
  have h0 := h.below hb0
  unfold Ref at hrf
  have hgx : (t.gen : Int) ≤ 999999 := by omega
  have hot : ∀ W, TabM W Y t → Calls Try.prog 35 #[.pointer (some ⟨Y, 0, none⟩), .int .i64 (i : Nat), .int .u64 (other : Nat), .int .i64 10757] W fun e w' => ∃ v', e = .returned v' ∧ w'.ownsRow W.heap.size 50 2 v' (othTo t (i : Nat) other 10757 8).length (nvs (othTo t (i : Nat) other 10757 8)) ∧ Below W.heap.size W w' := fun W hW => others_any hW (i : Nat) other 10757
  have z1 : ((other : Int) == 0) = false := beq_eq_false_iff_ne.2 (by omega)
  have z2 : ¬ (other : Int) = 0 := by omega
  have hLl := othTo_len t (i : Nat) other 10757 8
  have hLt := othTo_lt t (i : Nat) other 10757 8
  obtain ⟨L, hLe⟩ : ∃ L, L = othTo t (i : Nat) other 10757 8 := ⟨_, rfl⟩
  rw [← hLe] at hot hLl hLt hL ⊢
  have zL : ((L.length : Int) == 0) = false := beq_eq_false_iff_ne.2 (by have := List.length_pos_iff.2 hL; omega)
  have zL2 : ¬ (L.length : Int) = 0 := by have := List.length_pos_iff.2 hL; omega
  have hL0 : L.length ≠ 0 := by have := List.length_pos_iff.2 hL; omega
  clear hL hLe ho
  have e1 : ¬ (i : Int) = -1 := by omega
  have e2 : ((i : Int) != -1) = true := bne_iff_ne.2 e1
  go_enter Try.func18, Try.ntmps18
  go_wp2_with (first
    | (go_at_call 33; (with_reducible refine (hrf _ h0).mono ?_); rintro e w1 ⟨rfl, hb1⟩; have h1 := h0.below hb1; have hm1 := hm0.below hb1 hm0.lt; have hbb := hb0.trans (hb1.mono hb0.size))
    | ((refine wpList_store_row rfl 40 (.tmp 12) (.tmp 22) rfl w1.heap.size #[Value.int .i64 0, .int .i64 0, .int .i64 0, .slice none 0 0, .int .i64 0] rfl rfl 40 #[Value.int .i64 0, .int .i64 0, .int .i64 0, .slice none 0 0, .int .i64 0] (Mem.new w1 _ _) (by kernel_rfl) (by kernel_rfl) (by kernel_rfl) ?_); obtain ⟨w2, e2, h2, hm2, hr2, hb2⟩ := row_new h1 hbb hm1 #[Value.int .i64 0, .int .i64 0, .int .i64 0, .slice none 0 0, .int .i64 0]; rw [← e2]; clear e2)
    | (go_at_call 35; (with_reducible refine (hot _ h2).mono ?_); rintro e w4 ⟨v4, rfl, ho4, hb4⟩; have h4 := h2.below hb4; have hm4 := hm2.below hb4 hm2.lt; have hb5 := hb2.trans (hb4.mono hb2.size); have k4 := Keeps.of (g := Y) hb5; obtain ⟨g4, c4, rfl, hl4, hc4, hg4, hgl4⟩ := own_form2 ho4 hL0; have x8 := h4.c8; rw [hn] at x8))
  go_quiet (fail)
  go_wp2
  go_loopw [77] (fun s77 wr => ∃ j : Nat, j ≤ L.length ∧ s77 = .int .i64 (j : Nat) ∧ TabM wr Y (t.drop (L.take j)) ∧ Keeps Y w wr ∧ Mem wr w.heap.size 40 #[Value.int .i64 0, .int .i64 0, .int .i64 0, .slice none 0 0, .int .i64 0] ∧ wr.ownsRow w2.heap.size 50 2 (.slice (some ⟨g4, 0, none⟩) L.length c4) L.length (nvs L)) (fun s77 _ => L.length - (intOf s77).toNat)
  case atStart => exact ⟨0, Nat.zero_le _, rfl, ⟨h4.mem, h4.len⟩, ⟨k4.os, k4.tape, k4.output, k4.size, k4.block⟩, hm4, ⟨ho4.1, ho4.2⟩⟩
  case round =>
    obtain ⟨j, hj, rfl, h5, k5, hm5, ho5⟩ := hrel
    by_cases hjl : j < L.length
    · have hjx : (j : Int) < (L.length : Int) := by omega
      have hcl := fun k u hk => own_cells ho5 (2 * j + k) u (nvs_get L j hjl k u hk)
      have c0 : wr.cell? ⟨g4, j * 2, none⟩ = some (.int .i64 (L[j].1 : Nat)) := by have := hcl 0 _ rfl; rwa [show 2 * j + 0 = j * 2 by omega] at this
      have c1 : wr.cell? ⟨g4, j * 2 + 1, none⟩ = some (.int .i64 L[j].2) := by have := hcl 1 _ rfl; rwa [show 2 * j + 1 = j * 2 + 1 by omega] at this
      have hLj := hLt L[j] (List.getElem_mem hjl)
      have hds := drop_snoc t L j hjl
      generalize L[j].1 = a at *
      generalize L[j].2 = b at *
      clear hcl
      have hax : (a : Int) < 8 := by omega
      go_wp2_with (refine wpList_store_row rfl 50 (.tmp 16) (.tmp 80) rfl wr.heap.size #[.int .i64 (a : Nat), .int .i64 b] rfl rfl 50 #[.int .i64 0, .int .i64 0] (Mem.new wr _ _) (by kernel_rfl) (by kernel_rfl) (by kernel_rfl) ?_; obtain ⟨w5, e5, h6, hm6, hr6, hb6⟩ := note_new h5 hm5 (.int .i64 (a : Nat)) (.int .i64 b); rw [← e5]; clear e5; have x0 := hr6.cell 0; have h7 := h6.setKey a 0 hLj; have q6 := h6.mem.free a; have y6 := h6.key a hLj)
      go_region
      go_wp2
      have s5 := hm5.lt
      have s7 := h5.mem.lt
      have n6 : ∀ k, k ≠ Y → k < wr.heap.size → (w5.setCell ⟨Y, a, none⟩ (.int .u64 0)).drew.heap[k]? = wr.heap[k]? := fun k hk hkl => (Below.heap_setCell w5 ⟨Y, a, none⟩ (.int .u64 0) k hk).trans (hb6.block k hkl)
      have hz6 := hb6.size
      refine ⟨⟨j + 1, hjl, by go_num, ?_, ?_, ?_, ?_⟩, by simp [intOf]; omega⟩
      · rw [hds]; exact ⟨h7.mem, h7.len⟩
      · exact ⟨hb6.os.trans k5.os, hb6.tape.trans k5.tape, hb6.output.trans k5.output, by have := k5.size; show w.heap.size ≤ (w5.setCell ⟨Y, a, none⟩ (.int .u64 0)).heap.size; simp; omega, fun k hk hn => (n6 k hn (Nat.lt_of_lt_of_le hk k5.size)).trans (k5.block k hk hn)⟩
      · exact (n6 _ (fun e => hne e.symm) s5).trans hm5
      · exact owns_at ho5 fun k hk => by
          obtain rfl : g4 = k := Option.some.inj hk
          exact n6 g4 (fun e => by have := h2.mem.lt; omega) (own_tag ho5 g4 hk).2.1
    · obtain rfl : j = L.length := by omega
      rw [List.take_length] at h5
      have x10 : wr.cell? ⟨Y, 10, none⟩ = some (.int .u32 (t.gen : Nat)) := h5.c10
      have q10 := h5.mem.free 10
      have h6 : TabM (wr.setCell ⟨Y, 10, none⟩ (.int .u32 ((t.gen : Int) + 1))) Y (t.drop L).up := h5.setGen (t.gen + 1)
      have k6 : Keeps Y w (wr.setCell ⟨Y, 10, none⟩ (.int .u32 ((t.gen : Int) + 1))) := k5.setCell (p := ⟨Y, 10, none⟩) _
      have hm6 := hm5.far (p := ⟨Y, 10, none⟩) (fun e => hne e.symm) (.int .u32 ((t.gen : Int) + 1))
      have s5 := hm5.lt
      go_wp2_with (first
        | (go_at_call 31; (with_reducible refine (good_l _).mono ?_); rintro e w3 ⟨rfl, hb3⟩; have h7 := h6.below hb3; have hm7 := hm6.below hb3 hm6.lt; have k7 := k6.trans (Keeps.of hb3))
        | (refine wpList_store_row rfl 40 (.tmp 10) (.tmp 95) rfl w.heap.size #[Value.int .i64 0, .int .i64 0, .int .i64 0, .slice none 0 0, .int .i64 0] rfl rfl 40 #[Value.int .i64 0, .int .i64 0, .int .i64 0, .slice none 0 0, .int .i64 0] hm7 (by kernel_rfl) (by kernel_rfl) (by kernel_rfl) ?_))
      obtain ⟨g1, g2⟩ := keeps_row k7 hne h7 #[Value.int .i64 0, .int .i64 0, .int .i64 0, .slice none 0 0, .int .i64 0]
      refine bodyPost_ret (fin2 (p := 10) (a := 11) rfl _ _ w.heap.size 0 0 0 rfl (hm7.row _)) rfl ⟨_, rfl, ?_, g1, g2⟩
      have s2 := hb2.size
      have s4 := hm2.lt
      refine owns_mono (owns_at ho5 fun k hk => ?_) s2
      have o1 := own_tag ho5 k hk
      have o2 : k ≠ Y := by have := h2.mem.lt; omega
      have s8 : (wr.setCell ⟨Y, 10, none⟩ (.int .u32 ((t.gen : Int) + 1))).heap.size = wr.heap.size := by simp
      exact (setRow_other w3 w.heap.size k _ (by omega)).trans ((hb3.block k (by omega)).trans (Below.heap_setCell wr ⟨Y, 10, none⟩ _ k o2))
set_option maxRecDepth 100000 in
set_option maxHeartbeats 1000000 in
theorem Preempt_keepC (h : TabM w Y t) (i : Nat) (hi : i < 8) (key : Nat) (other : Nat) (ho : other ≠ 0) (hL : othTo t (i : Nat) other 10757 8 ≠ []) (q : Nat) (hq : q < 8) (hqi : q ≠ i) (hn : t.holder = (q : Nat)) (hk : t.at_ q ≠ other) (y : Int) (hg : t.gen ≤ 999999) (hrf : Ref Y t (i : Nat) key 0 0 0 false) : Calls Try.prog 18 #[.pointer (some ⟨Y, 0, none⟩), .int .i64 (i : Nat), .int .u64 (key : Nat), .int .u64 (other : Nat), .int .i64 y] w (Tells w Y (t.drop (othTo t (i : Nat) other 10757 8)).up 0 0 0 (othTo t (i : Nat) other 10757 8)) := by
  have hlt := h.mem.lt
  have hne : Y ≠ w.heap.size := by omega
  have hm0 := Mem.new w 40 #[Value.int .i64 0, .int .i64 0, .int .i64 0, .slice none 0 0, .int .i64 0]
  have hb0 : Below w.heap.size w (w.alloc (.cells #[Value.int .i64 0, .int .i64 0, .int .i64 0, .slice none 0 0, .int .i64 0] 40)) := (Below.refl _ w).alloc (Nat.le_refl _) _
  have h0 := h.below hb0
  unfold Ref at hrf
  have hgx : (t.gen : Int) ≤ 999999 := by omega
  have hot : ∀ W, TabM W Y t → Calls Try.prog 35 #[.pointer (some ⟨Y, 0, none⟩), .int .i64 (i : Nat), .int .u64 (other : Nat), .int .i64 10757] W fun e w' => ∃ v', e = .returned v' ∧ w'.ownsRow W.heap.size 50 2 v' (othTo t (i : Nat) other 10757 8).length (nvs (othTo t (i : Nat) other 10757 8)) ∧ Below W.heap.size W w' := fun W hW => others_any hW (i : Nat) other 10757
  have z1 : ((other : Int) == 0) = false := beq_eq_false_iff_ne.2 (by omega)
  have z2 : ¬ (other : Int) = 0 := by omega
  have hLl := othTo_len t (i : Nat) other 10757 8
  have hLt := othTo_lt t (i : Nat) other 10757 8
  obtain ⟨L, hLe⟩ : ∃ L, L = othTo t (i : Nat) other 10757 8 := ⟨_, rfl⟩
  rw [← hLe] at hot hLl hLt hL ⊢
  have zL : ((L.length : Int) == 0) = false := beq_eq_false_iff_ne.2 (by have := List.length_pos_iff.2 hL; omega)
  have zL2 : ¬ (L.length : Int) = 0 := by have := List.length_pos_iff.2 hL; omega
  have hL0 : L.length ≠ 0 := by have := List.length_pos_iff.2 hL; omega
  clear hL hLe ho
  unfold RT.at_ at hk
  obtain ⟨kq, hkq⟩ : ∃ kq, t.keys[q]?.getD 0 = kq := ⟨_, rfl⟩
  have hyq : ∀ W, TabM W Y t → W.cell? ⟨Y, q, none⟩ = some (.int .u64 (kq : Nat)) := fun W hW => hkq ▸ hW.key q hq
  rw [hkq] at hk
  have hqx : (q : Int) < 8 := by omega
  have e1 : ¬ (q : Int) = -1 := by omega
  have e2 : ((q : Int) != -1) = true := bne_iff_ne.2 e1
  have e3 : ¬ (q : Int) = (i : Int) := by omega
  have e4 : ((q : Int) != (i : Int)) = true := bne_iff_ne.2 e3
  have e5 : ¬ (kq : Int) = (other : Int) := by omega
  have e6 : ((kq : Int) == (other : Int)) = false := beq_eq_false_iff_ne.2 e5
  clear hk hqi
  go_enter Try.func18, Try.ntmps18
  go_wp2_with (first
    | (go_at_call 33; (with_reducible refine (hrf _ h0).mono ?_); rintro e w1 ⟨rfl, hb1⟩; have h1 := h0.below hb1; have hm1 := hm0.below hb1 hm0.lt; have hbb := hb0.trans (hb1.mono hb0.size))
    | ((refine wpList_store_row rfl 40 (.tmp 12) (.tmp 22) rfl w1.heap.size #[Value.int .i64 0, .int .i64 0, .int .i64 0, .slice none 0 0, .int .i64 0] rfl rfl 40 #[Value.int .i64 0, .int .i64 0, .int .i64 0, .slice none 0 0, .int .i64 0] (Mem.new w1 _ _) (by kernel_rfl) (by kernel_rfl) (by kernel_rfl) ?_); obtain ⟨w2, e2, h2, hm2, hr2, hb2⟩ := row_new h1 hbb hm1 #[Value.int .i64 0, .int .i64 0, .int .i64 0, .slice none 0 0, .int .i64 0]; rw [← e2]; clear e2)
    | (go_at_call 35; (with_reducible refine (hot _ h2).mono ?_); rintro e w4 ⟨v4, rfl, ho4, hb4⟩; have h4 := h2.below hb4; have hm4 := hm2.below hb4 hm2.lt; have hb5 := hb2.trans (hb4.mono hb2.size); have k4 := Keeps.of (g := Y) hb5; obtain ⟨g4, c4, rfl, hl4, hc4, hg4, hgl4⟩ := own_form2 ho4 hL0; have x8 := h4.c8; rw [hn] at x8; have yq := hyq _ h4))
  go_quiet (fail)
  go_wp2
  go_loopw [77] (fun s77 wr => ∃ j : Nat, j ≤ L.length ∧ s77 = .int .i64 (j : Nat) ∧ TabM wr Y (t.drop (L.take j)) ∧ Keeps Y w wr ∧ Mem wr w.heap.size 40 #[Value.int .i64 0, .int .i64 0, .int .i64 0, .slice none 0 0, .int .i64 0] ∧ wr.ownsRow w2.heap.size 50 2 (.slice (some ⟨g4, 0, none⟩) L.length c4) L.length (nvs L)) (fun s77 _ => L.length - (intOf s77).toNat)
  case atStart => exact ⟨0, Nat.zero_le _, rfl, ⟨h4.mem, h4.len⟩, ⟨k4.os, k4.tape, k4.output, k4.size, k4.block⟩, hm4, ⟨ho4.1, ho4.2⟩⟩
  case round =>
    obtain ⟨j, hj, rfl, h5, k5, hm5, ho5⟩ := hrel
    by_cases hjl : j < L.length
    · have hjx : (j : Int) < (L.length : Int) := by omega
      have hcl := fun k u hk => own_cells ho5 (2 * j + k) u (nvs_get L j hjl k u hk)
      have c0 : wr.cell? ⟨g4, j * 2, none⟩ = some (.int .i64 (L[j].1 : Nat)) := by have := hcl 0 _ rfl; rwa [show 2 * j + 0 = j * 2 by omega] at this
      have c1 : wr.cell? ⟨g4, j * 2 + 1, none⟩ = some (.int .i64 L[j].2) := by have := hcl 1 _ rfl; rwa [show 2 * j + 1 = j * 2 + 1 by omega] at this
      have hLj := hLt L[j] (List.getElem_mem hjl)
      have hds := drop_snoc t L j hjl
      generalize L[j].1 = a at *
      generalize L[j].2 = b at *
      clear hcl
      have hax : (a : Int) < 8 := by omega
      go_wp2_with (refine wpList_store_row rfl 50 (.tmp 16) (.tmp 80) rfl wr.heap.size #[.int .i64 (a : Nat), .int .i64 b] rfl rfl 50 #[.int .i64 0, .int .i64 0] (Mem.new wr _ _) (by kernel_rfl) (by kernel_rfl) (by kernel_rfl) ?_; obtain ⟨w5, e5, h6, hm6, hr6, hb6⟩ := note_new h5 hm5 (.int .i64 (a : Nat)) (.int .i64 b); rw [← e5]; clear e5; have x0 := hr6.cell 0; have h7 := h6.setKey a 0 hLj; have q6 := h6.mem.free a; have y6 := h6.key a hLj)
      go_region
      go_wp2
      have s5 := hm5.lt
      have s7 := h5.mem.lt
      have n6 : ∀ k, k ≠ Y → k < wr.heap.size → (w5.setCell ⟨Y, a, none⟩ (.int .u64 0)).drew.heap[k]? = wr.heap[k]? := fun k hk hkl => (Below.heap_setCell w5 ⟨Y, a, none⟩ (.int .u64 0) k hk).trans (hb6.block k hkl)
      have hz6 := hb6.size
      refine ⟨⟨j + 1, hjl, by go_num, ?_, ?_, ?_, ?_⟩, by simp [intOf]; omega⟩
      · rw [hds]; exact ⟨h7.mem, h7.len⟩
      · exact ⟨hb6.os.trans k5.os, hb6.tape.trans k5.tape, hb6.output.trans k5.output, by have := k5.size; show w.heap.size ≤ (w5.setCell ⟨Y, a, none⟩ (.int .u64 0)).heap.size; simp; omega, fun k hk hn => (n6 k hn (Nat.lt_of_lt_of_le hk k5.size)).trans (k5.block k hk hn)⟩
      · exact (n6 _ (fun e => hne e.symm) s5).trans hm5
      · exact owns_at ho5 fun k hk => by
          obtain rfl : g4 = k := Option.some.inj hk
          exact n6 g4 (fun e => by have := h2.mem.lt; omega) (own_tag ho5 g4 hk).2.1
    · obtain rfl : j = L.length := by omega
      rw [List.take_length] at h5
      have x10 : wr.cell? ⟨Y, 10, none⟩ = some (.int .u32 (t.gen : Nat)) := h5.c10
      have q10 := h5.mem.free 10
      have h6 : TabM (wr.setCell ⟨Y, 10, none⟩ (.int .u32 ((t.gen : Int) + 1))) Y (t.drop L).up := h5.setGen (t.gen + 1)
      have k6 : Keeps Y w (wr.setCell ⟨Y, 10, none⟩ (.int .u32 ((t.gen : Int) + 1))) := k5.setCell (p := ⟨Y, 10, none⟩) _
      have hm6 := hm5.far (p := ⟨Y, 10, none⟩) (fun e => hne e.symm) (.int .u32 ((t.gen : Int) + 1))
      have s5 := hm5.lt
      go_wp2_with (first
        | (go_at_call 31; (with_reducible refine (good_l _).mono ?_); rintro e w3 ⟨rfl, hb3⟩; have h7 := h6.below hb3; have hm7 := hm6.below hb3 hm6.lt; have k7 := k6.trans (Keeps.of hb3))
        | (refine wpList_store_row rfl 40 (.tmp 10) (.tmp 95) rfl w.heap.size #[Value.int .i64 0, .int .i64 0, .int .i64 0, .slice none 0 0, .int .i64 0] rfl rfl 40 #[Value.int .i64 0, .int .i64 0, .int .i64 0, .slice none 0 0, .int .i64 0] hm7 (by kernel_rfl) (by kernel_rfl) (by kernel_rfl) ?_))
      obtain ⟨g1, g2⟩ := keeps_row k7 hne h7 #[Value.int .i64 0, .int .i64 0, .int .i64 0, .slice none 0 0, .int .i64 0]
      refine bodyPost_ret (fin2 (p := 10) (a := 11) rfl _ _ w.heap.size 0 0 0 rfl (hm7.row _)) rfl ⟨_, rfl, ?_, g1, g2⟩
      have s2 := hb2.size
      have s4 := hm2.lt
      refine owns_mono (owns_at ho5 fun k hk => ?_) s2
      have o1 := own_tag ho5 k hk
      have o2 : k ≠ Y := by have := h2.mem.lt; omega
      have s8 : (wr.setCell ⟨Y, 10, none⟩ (.int .u32 ((t.gen : Int) + 1))).heap.size = wr.heap.size := by simp
      exact (setRow_other w3 w.heap.size k _ (by omega)).trans ((hb3.block k (by omega)).trans (Below.heap_setCell wr ⟨Y, 10, none⟩ _ k o2))
set_option maxRecDepth 100000 in
set_option maxHeartbeats 1000000 in
theorem Preempt_bad (h : TabM w Y t) (i : Nat) (hi : i < 8) (key : Nat) (other : Nat) (ho : other ≠ 0) (hL : othTo t (i : Nat) other 10757 8 ≠ []) (q : Nat) (hq : q < 8) (hqi : q ≠ i) (hn : t.holder = (q : Nat)) (hk : t.at_ q = other) (y : Int) (hy : ¬ (y = 1 ∨ y = 3 ∨ y = 5 ∨ y = 6)) (hrf : Ref Y t (i : Nat) key 0 0 0 false) : Calls Try.prog 18 #[.pointer (some ⟨Y, 0, none⟩), .int .i64 (i : Nat), .int .u64 (key : Nat), .int .u64 (other : Nat), .int .i64 y] w (Tells w Y t 2 5 9216 []) := by
  have hlt := h.mem.lt
  have hne : Y ≠ w.heap.size := by omega
  have hm0 := Mem.new w 40 #[Value.int .i64 0, .int .i64 0, .int .i64 0, .slice none 0 0, .int .i64 0]
  have hb0 : Below w.heap.size w (w.alloc (.cells #[Value.int .i64 0, .int .i64 0, .int .i64 0, .slice none 0 0, .int .i64 0] 40)) := (Below.refl _ w).alloc (Nat.le_refl _) _
  have h0 := h.below hb0
  unfold Ref at hrf
  have hit := fun W => isType_any y W
  rw [decide_eq_false hy] at hit
  clear hy
  have hot : ∀ W, TabM W Y t → Calls Try.prog 35 #[.pointer (some ⟨Y, 0, none⟩), .int .i64 (i : Nat), .int .u64 (other : Nat), .int .i64 10757] W fun e w' => ∃ v', e = .returned v' ∧ w'.ownsRow W.heap.size 50 2 v' (othTo t (i : Nat) other 10757 8).length (nvs (othTo t (i : Nat) other 10757 8)) ∧ Below W.heap.size W w' := fun W hW => others_any hW (i : Nat) other 10757
  have z1 : ((other : Int) == 0) = false := beq_eq_false_iff_ne.2 (by omega)
  have z2 : ¬ (other : Int) = 0 := by omega
  have hLl := othTo_len t (i : Nat) other 10757 8
  have hLt := othTo_lt t (i : Nat) other 10757 8
  obtain ⟨L, hLe⟩ : ∃ L, L = othTo t (i : Nat) other 10757 8 := ⟨_, rfl⟩
  rw [← hLe] at hot hLl hLt hL
  have zL : ((L.length : Int) == 0) = false := beq_eq_false_iff_ne.2 (by have := List.length_pos_iff.2 hL; omega)
  have zL2 : ¬ (L.length : Int) = 0 := by have := List.length_pos_iff.2 hL; omega
  have hL0 : L.length ≠ 0 := by have := List.length_pos_iff.2 hL; omega
  clear hL hLe ho
  unfold RT.at_ at hk
  obtain ⟨kq, hkq⟩ : ∃ kq, t.keys[q]?.getD 0 = kq := ⟨_, rfl⟩
  have hyq : ∀ W, TabM W Y t → W.cell? ⟨Y, q, none⟩ = some (.int .u64 (kq : Nat)) := fun W hW => hkq ▸ hW.key q hq
  rw [hkq] at hk
  have hqx : (q : Int) < 8 := by omega
  have e1 : ¬ (q : Int) = -1 := by omega
  have e2 : ((q : Int) != -1) = true := bne_iff_ne.2 e1
  have e3 : ¬ (q : Int) = (i : Int) := by omega
  have e4 : ((q : Int) != (i : Int)) = true := bne_iff_ne.2 e3
  subst hk
  clear hqi
  go_enter Try.func18, Try.ntmps18
  go_wp2_with (first
    | (go_at_call 33; (with_reducible refine (hrf _ h0).mono ?_); rintro e w1 ⟨rfl, hb1⟩; have h1 := h0.below hb1; have hm1 := hm0.below hb1 hm0.lt; have hbb := hb0.trans (hb1.mono hb0.size))
    | ((refine wpList_store_row rfl 40 (.tmp 12) (.tmp 22) rfl w1.heap.size #[Value.int .i64 0, .int .i64 0, .int .i64 0, .slice none 0 0, .int .i64 0] rfl rfl 40 #[Value.int .i64 0, .int .i64 0, .int .i64 0, .slice none 0 0, .int .i64 0] (Mem.new w1 _ _) (by kernel_rfl) (by kernel_rfl) (by kernel_rfl) ?_); obtain ⟨w2, e2, h2, hm2, hr2, hb2⟩ := row_new h1 hbb hm1 #[Value.int .i64 0, .int .i64 0, .int .i64 0, .slice none 0 0, .int .i64 0]; rw [← e2]; clear e2)
    | (go_at_call 35; (with_reducible refine (hot _ h2).mono ?_); rintro e w4 ⟨v4, rfl, ho4, hb4⟩; have h4 := h2.below hb4; have hm4 := hm2.below hb4 hm2.lt; have hb5 := hb2.trans (hb4.mono hb2.size); have k4 := Keeps.of (g := Y) hb5; obtain ⟨g4, c4, rfl, hl4, hc4, hg4, hgl4⟩ := own_form2 ho4 hL0; have x8 := h4.c8; rw [hn] at x8; have yq := hyq _ h4))
  go_quiet (fail)
  go_wp2_with (first
    | (go_at_call 34; (with_reducible refine (hit _).mono ?_); rintro e w9 ⟨rfl, rfl⟩)
    | (go_at_call 29; (with_reducible refine (wrong_l _ _).mono ?_); rintro e w3 ⟨rfl, hb3⟩; have h5 : TabM w3 Y t := ⟨(hb3.block Y h4.mem.lt).trans h4.mem, h4.len⟩; have hm5 : Mem w3 w.heap.size 40 #[Value.int .i64 0, .int .i64 0, .int .i64 0, .slice none 0 0, .int .i64 0] := (hb3.block _ hm4.lt).trans hm4; have k5 := (Keeps.of (g := Y) (below_drewN hb5 _)).trans (Keeps.of hb3))
    | (refine wpList_store_row rfl 40 (.tmp 10) (.tmp 66) rfl w.heap.size #[Value.int .i64 2, .int .i64 5, .int .i64 9216, .slice none 0 0, .int .i64 0] rfl rfl 40 #[Value.int .i64 0, .int .i64 0, .int .i64 0, .slice none 0 0, .int .i64 0] hm5 (by kernel_rfl) (by kernel_rfl) (by kernel_rfl) ?_))
  obtain ⟨g1, g2⟩ := keeps_row k5 hne h5 #[Value.int .i64 2, .int .i64 5, .int .i64 9216, .slice none 0 0, .int .i64 0]
  exact bodyPost_ret (fin2 (p := 10) (a := 11) rfl _ _ w.heap.size 2 5 9216 rfl (hm5.row _)) rfl ⟨_, rfl, World.ownsRow_nil _ _ _ _, g1, g2⟩
set_option maxRecDepth 100000 in
set_option maxHeartbeats 1000000 in
theorem Preempt_take (h : TabM w Y t) (i : Nat) (hi : i < 8) (key : Nat) (other : Nat) (ho : other ≠ 0) (hL : othTo t (i : Nat) other 10757 8 ≠ []) (q : Nat) (hq : q < 8) (hqi : q ≠ i) (hn : t.holder = (q : Nat)) (hk : t.at_ q = other) (y : Nat) (hy : (y : Int) = 1 ∨ (y : Int) = 3 ∨ (y : Int) = 5 ∨ (y : Int) = 6) (hg : t.gen ≤ 999999) (hrf : Ref Y t (i : Nat) key 0 0 0 false) : Calls Try.prog 18 #[.pointer (some ⟨Y, 0, none⟩), .int .i64 (i : Nat), .int .u64 (key : Nat), .int .u64 (other : Nat), .int .i64 (y : Nat)] w (Tells w Y ((t.hold i y).drop (othTo t (i : Nat) other 10757 8)).up 0 0 0 (othTo t (i : Nat) other 10757 8)) := by
  have hlt := h.mem.lt
  have hne : Y ≠ w.heap.size := by omega
  have hm0 := Mem.new w 40 #[Value.int .i64 0, .int .i64 0, .int .i64 0, .slice none 0 0, .int .i64 0]
  have hb0 : Below w.heap.size w (w.alloc (.cells #[Value.int .i64 0, .int .i64 0, .int .i64 0, .slice none 0 0, .int .i64 0] 40)) := (Below.refl _ w).alloc (Nat.le_refl _) _
  have h0 := h.below hb0
  unfold Ref at hrf
  have hgx : (t.gen : Int) ≤ 999999 := by omega
  have hit := fun W => isType_any (y : Nat) W
  rw [decide_eq_true hy] at hit
  clear hy
  have hot : ∀ W, TabM W Y t → Calls Try.prog 35 #[.pointer (some ⟨Y, 0, none⟩), .int .i64 (i : Nat), .int .u64 (other : Nat), .int .i64 10757] W fun e w' => ∃ v', e = .returned v' ∧ w'.ownsRow W.heap.size 50 2 v' (othTo t (i : Nat) other 10757 8).length (nvs (othTo t (i : Nat) other 10757 8)) ∧ Below W.heap.size W w' := fun W hW => others_any hW (i : Nat) other 10757
  have z1 : ((other : Int) == 0) = false := beq_eq_false_iff_ne.2 (by omega)
  have z2 : ¬ (other : Int) = 0 := by omega
  have hLl := othTo_len t (i : Nat) other 10757 8
  have hLt := othTo_lt t (i : Nat) other 10757 8
  obtain ⟨L, hLe⟩ : ∃ L, L = othTo t (i : Nat) other 10757 8 := ⟨_, rfl⟩
  rw [← hLe] at hot hLl hLt hL ⊢
  have zL : ((L.length : Int) == 0) = false := beq_eq_false_iff_ne.2 (by have := List.length_pos_iff.2 hL; omega)
  have zL2 : ¬ (L.length : Int) = 0 := by have := List.length_pos_iff.2 hL; omega
  have hL0 : L.length ≠ 0 := by have := List.length_pos_iff.2 hL; omega
  clear hL hLe ho
  unfold RT.at_ at hk
  obtain ⟨kq, hkq⟩ : ∃ kq, t.keys[q]?.getD 0 = kq := ⟨_, rfl⟩
  have hyq : ∀ W, TabM W Y t → W.cell? ⟨Y, q, none⟩ = some (.int .u64 (kq : Nat)) := fun W hW => hkq ▸ hW.key q hq
  rw [hkq] at hk
  have hqx : (q : Int) < 8 := by omega
  have e1 : ¬ (q : Int) = -1 := by omega
  have e2 : ((q : Int) != -1) = true := bne_iff_ne.2 e1
  have e3 : ¬ (q : Int) = (i : Int) := by omega
  have e4 : ((q : Int) != (i : Int)) = true := bne_iff_ne.2 e3
  subst hk
  clear hqi
  go_enter Try.func18, Try.ntmps18
  go_wp2_with (first
    | (go_at_call 33; (with_reducible refine (hrf _ h0).mono ?_); rintro e w1 ⟨rfl, hb1⟩; have h1 := h0.below hb1; have hm1 := hm0.below hb1 hm0.lt; have hbb := hb0.trans (hb1.mono hb0.size))
    | ((refine wpList_store_row rfl 40 (.tmp 12) (.tmp 22) rfl w1.heap.size #[Value.int .i64 0, .int .i64 0, .int .i64 0, .slice none 0 0, .int .i64 0] rfl rfl 40 #[Value.int .i64 0, .int .i64 0, .int .i64 0, .slice none 0 0, .int .i64 0] (Mem.new w1 _ _) (by kernel_rfl) (by kernel_rfl) (by kernel_rfl) ?_); obtain ⟨w2, e2, h2, hm2, hr2, hb2⟩ := row_new h1 hbb hm1 #[Value.int .i64 0, .int .i64 0, .int .i64 0, .slice none 0 0, .int .i64 0]; rw [← e2]; clear e2)
    | (go_at_call 35; (with_reducible refine (hot _ h2).mono ?_); rintro e w4 ⟨v4, rfl, ho4, hb4⟩; have h4 := h2.below hb4; have hm4 := hm2.below hb4 hm2.lt; have hb5 := hb2.trans (hb4.mono hb2.size); have k4 := Keeps.of (g := Y) hb5; obtain ⟨g4, c4, rfl, hl4, hc4, hg4, hgl4⟩ := own_form2 ho4 hL0; have x8 := h4.c8; rw [hn] at x8; have yq := hyq _ h4; have h4n : ∀ n, TabM (w4.drewN n) Y t := fun n => ⟨h4.mem, h4.len⟩; have x8n : ∀ n, (w4.drewN n).cell? ⟨Y, 8, none⟩ = some (.int .i64 (q : Nat)) := fun n => hn ▸ (h4n n).c8; have q8 := fun n => (h4n n).mem.free 8; have j3 := fun n => (h4n n).setHolder (i : Nat); have j9 : ∀ n, ((w4.drewN n).setCell ⟨Y, 8, none⟩ (.int .i64 (i : Nat))).cell? ⟨Y, 9, none⟩ = some (.int .i64 (t.typ : Nat)) := fun n => (j3 n).c9; have r9 := fun n => (j3 n).mem.free 9; have hT : ∀ n, TabM (((w4.drewN n).setCell ⟨Y, 8, none⟩ (.int .i64 (i : Nat))).setCell ⟨Y, 9, none⟩ (.int .i64 (y : Nat))) Y (t.hold i y) := fun n => (j3 n).setTyp y; have kT : ∀ n, Keeps Y w (((w4.drewN n).setCell ⟨Y, 8, none⟩ (.int .i64 (i : Nat))).setCell ⟨Y, 9, none⟩ (.int .i64 (y : Nat))) := fun n => ((Keeps.of (g := Y) (below_drewN hb5 n)).setCell (p := ⟨Y, 8, none⟩) _).setCell (p := ⟨Y, 9, none⟩) _; have nT : ∀ n k, k ≠ Y → (((w4.drewN n).setCell ⟨Y, 8, none⟩ (.int .i64 (i : Nat))).setCell ⟨Y, 9, none⟩ (.int .i64 (y : Nat))).heap[k]? = w4.heap[k]? := fun n k hk => (Below.heap_setCell _ ⟨Y, 9, none⟩ _ k hk).trans (Below.heap_setCell (w4.drewN n) ⟨Y, 8, none⟩ _ k hk)))
  go_quiet (fail)
  go_wp2_with (first
    | (go_at_call 34; (with_reducible refine (hit _).mono ?_); rintro e w9 ⟨rfl, rfl⟩))
  go_loopw [77] (fun s77 wr => ∃ j : Nat, j ≤ L.length ∧ s77 = .int .i64 (j : Nat) ∧ TabM wr Y ((t.hold i y).drop (L.take j)) ∧ Keeps Y w wr ∧ Mem wr w.heap.size 40 #[Value.int .i64 0, .int .i64 0, .int .i64 0, .slice none 0 0, .int .i64 0] ∧ wr.ownsRow w2.heap.size 50 2 (.slice (some ⟨g4, 0, none⟩) L.length c4) L.length (nvs L)) (fun s77 _ => L.length - (intOf s77).toNat)
  case atStart => exact ⟨0, Nat.zero_le _, rfl, hT _, kT _, (nT _ _ (fun e => hne e.symm)).trans hm4, owns_at ho4 (fun k hk => nT _ k (fun e => by have o1 := own_tag ho4 k hk; have o2 := h2.mem.lt; omega))⟩
  case round =>
    obtain ⟨j, hj, rfl, h5, k5, hm5, ho5⟩ := hrel
    by_cases hjl : j < L.length
    · have hjx : (j : Int) < (L.length : Int) := by omega
      have hcl := fun k u hk => own_cells ho5 (2 * j + k) u (nvs_get L j hjl k u hk)
      have c0 : wr.cell? ⟨g4, j * 2, none⟩ = some (.int .i64 (L[j].1 : Nat)) := by have := hcl 0 _ rfl; rwa [show 2 * j + 0 = j * 2 by omega] at this
      have c1 : wr.cell? ⟨g4, j * 2 + 1, none⟩ = some (.int .i64 L[j].2) := by have := hcl 1 _ rfl; rwa [show 2 * j + 1 = j * 2 + 1 by omega] at this
      have hLj := hLt L[j] (List.getElem_mem hjl)
      have hds := drop_snoc (t.hold i y) L j hjl
      generalize L[j].1 = a at *
      generalize L[j].2 = b at *
      clear hcl
      have hax : (a : Int) < 8 := by omega
      go_wp2_with (refine wpList_store_row rfl 50 (.tmp 16) (.tmp 80) rfl wr.heap.size #[.int .i64 (a : Nat), .int .i64 b] rfl rfl 50 #[.int .i64 0, .int .i64 0] (Mem.new wr _ _) (by kernel_rfl) (by kernel_rfl) (by kernel_rfl) ?_; obtain ⟨w5, e5, h6, hm6, hr6, hb6⟩ := note_new h5 hm5 (.int .i64 (a : Nat)) (.int .i64 b); rw [← e5]; clear e5; have x0 := hr6.cell 0; have h7 := h6.setKey a 0 hLj; have q6 := h6.mem.free a; have y6 := h6.key a hLj)
      go_region
      go_wp2
      have s5 := hm5.lt
      have s7 := h5.mem.lt
      have n6 : ∀ k, k ≠ Y → k < wr.heap.size → (w5.setCell ⟨Y, a, none⟩ (.int .u64 0)).drew.heap[k]? = wr.heap[k]? := fun k hk hkl => (Below.heap_setCell w5 ⟨Y, a, none⟩ (.int .u64 0) k hk).trans (hb6.block k hkl)
      have hz6 := hb6.size
      refine ⟨⟨j + 1, hjl, by go_num, ?_, ?_, ?_, ?_⟩, by simp [intOf]; omega⟩
      · rw [hds]; exact ⟨h7.mem, h7.len⟩
      · exact ⟨hb6.os.trans k5.os, hb6.tape.trans k5.tape, hb6.output.trans k5.output, by have := k5.size; show w.heap.size ≤ (w5.setCell ⟨Y, a, none⟩ (.int .u64 0)).heap.size; simp; omega, fun k hk hn => (n6 k hn (Nat.lt_of_lt_of_le hk k5.size)).trans (k5.block k hk hn)⟩
      · exact (n6 _ (fun e => hne e.symm) s5).trans hm5
      · exact owns_at ho5 fun k hk => by
          obtain rfl : g4 = k := Option.some.inj hk
          exact n6 g4 (fun e => by have := h2.mem.lt; omega) (own_tag ho5 g4 hk).2.1
    · obtain rfl : j = L.length := by omega
      rw [List.take_length] at h5
      have x10 : wr.cell? ⟨Y, 10, none⟩ = some (.int .u32 (t.gen : Nat)) := h5.c10
      have q10 := h5.mem.free 10
      have h6 : TabM (wr.setCell ⟨Y, 10, none⟩ (.int .u32 ((t.gen : Int) + 1))) Y ((t.hold i y).drop L).up := h5.setGen (t.gen + 1)
      have k6 : Keeps Y w (wr.setCell ⟨Y, 10, none⟩ (.int .u32 ((t.gen : Int) + 1))) := k5.setCell (p := ⟨Y, 10, none⟩) _
      have hm6 := hm5.far (p := ⟨Y, 10, none⟩) (fun e => hne e.symm) (.int .u32 ((t.gen : Int) + 1))
      have s5 := hm5.lt
      go_wp2_with (first
        | (go_at_call 31; (with_reducible refine (good_l _).mono ?_); rintro e w3 ⟨rfl, hb3⟩; have h7 := h6.below hb3; have hm7 := hm6.below hb3 hm6.lt; have k7 := k6.trans (Keeps.of hb3))
        | (refine wpList_store_row rfl 40 (.tmp 10) (.tmp 95) rfl w.heap.size #[Value.int .i64 0, .int .i64 0, .int .i64 0, .slice none 0 0, .int .i64 0] rfl rfl 40 #[Value.int .i64 0, .int .i64 0, .int .i64 0, .slice none 0 0, .int .i64 0] hm7 (by kernel_rfl) (by kernel_rfl) (by kernel_rfl) ?_))
      obtain ⟨g1, g2⟩ := keeps_row k7 hne h7 #[Value.int .i64 0, .int .i64 0, .int .i64 0, .slice none 0 0, .int .i64 0]
      refine bodyPost_ret (fin2 (p := 10) (a := 11) rfl _ _ w.heap.size 0 0 0 rfl (hm7.row _)) rfl ⟨_, rfl, ?_, g1, g2⟩
      have s2 := hb2.size
      have s4 := hm2.lt
      refine owns_mono (owns_at ho5 fun k hk => ?_) s2
      have o1 := own_tag ho5 k hk
      have o2 : k ≠ Y := by have := h2.mem.lt; omega
      have s8 : (wr.setCell ⟨Y, 10, none⟩ (.int .u32 ((t.gen : Int) + 1))).heap.size = wr.heap.size := by simp
      exact (setRow_other w3 w.heap.size k _ (by omega)).trans ((hb3.block k (by omega)).trans (Below.heap_setCell wr ⟨Y, 10, none⟩ _ k o2))
end
end Rv
end Go.Proofs.Ytgnpepkpbdddhaa
