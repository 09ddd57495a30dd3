/- Package resv: Clear, Preempt: contracts. -/
import Derived.Test.YtgnpepkpbdddhaaRv4
namespace Go.Proofs.Ytgnpepkpbdddhaa
open Go.ChangeShapes Go.WideShapes Go.ChangeAt Go.RowKit Go.Lib
set_option linter.unusedVariables false
set_option linter.unusedSimpArgs false
namespace Rv
section
variable {w w' : World} {Y : Nat} {t : RT}
theorem owns_at {w w' : World} {base e sz : Nat} {v : Value} {n : Nat} {xs : List Value} (h : w.ownsRow base e sz v n xs) (hb : ∀ k, v.ownBlock = some k → w'.heap[k]? = w.heap[k]?) : w'.ownsRow base e sz v n xs := by
  refine ⟨h.1, ?_⟩
  rcases h.2 with hn | ⟨g, cap, cur, rfl, hg, hgg, rest⟩
  · exact .inl hn
  · refine .inr ⟨g, cap, cur, rfl, hg, ?_, rest⟩
    rw [hb g rfl]
    exact hgg
theorem row_size (h : t.keys.length = 8) : t.row.size = 11 := by simp [RT.row, kus, h]
/-- Nobody any more. -/
def RT.clear (t : RT) : RT := ⟨[0, 0, 0, 0, 0, 0, 0, 0], -1, 0, t.gen + 1⟩
theorem clear_rows (t : RT) : t.clear.row = #[Value.int .u64 0, .int .u64 0, .int .u64 0, .int .u64 0, .int .u64 0, .int .u64 0, .int .u64 0, .int .u64 0, .int .i64 (-1), .int .i64 0, .int .u32 ((t.gen : Int) + 1)] := by
  unfold RT.clear RT.row kus
  simp
theorem clear_row {w W : World} (h4 : TabM W Y t) (hm : Mem W w.heap.size 40 #[Value.int .i64 0, .int .i64 0, .int .i64 0, .slice none 0 0, .int .i64 0]) (hlt : Y < w.heap.size) (hb : Below w.heap.size w W) : ∃ W', W' = W.setRow Y #[Value.int .u64 0, .int .u64 0, .int .u64 0, .int .u64 0, .int .u64 0, .int .u64 0, .int .u64 0, .int .u64 0, .int .i64 (-1), .int .i64 0, .int .u32 ((t.gen : Int) + 1)] ∧ TabM W' Y t.clear ∧ Mem W' w.heap.size 40 #[Value.int .i64 0, .int .i64 0, .int .i64 0, .slice none 0 0, .int .i64 0] ∧ Keeps Y w W' ∧ (∀ k, k ≠ Y → W'.heap[k]? = W.heap[k]?) ∧ W.heap.size ≤ W'.heap.size := by
  refine ⟨_, rfl, ⟨?_, rfl⟩, hm.rowFar (by omega) _, (Keeps.of hb).setRow _, fun k hk => setRow_other W Y k _ hk, by simp [World.setRow]⟩
  rw [clear_rows]
  exact h4.mem.row _
set_option maxRecDepth 100000 in
set_option maxHeartbeats 1000000 in
theorem Clear_good (h : TabM w Y t) (i : Nat) (hi : i < 8) (key : Nat) (hg : t.gen ≤ 999999) (hrf : Ref Y t (i : Nat) key 0 0 0 false) : Calls Try.prog 15 #[.pointer (some ⟨Y, 0, none⟩), .int .i64 (i : Nat), .int .u64 (key : Nat)] w (Tells w Y t.clear 0 0 0 (othTo t (i : Nat) 0 10755 8)) := by
  have hlt := h.mem.lt
  have hne : Y ≠ w.heap.size := by omega
  have hm0 := Mem.new w 40 #[Value.int .i64 0, .int .i64 0, .int .i64 0, .slice none 0 0, .int .i64 0]
  have hb0 : Below w.heap.size w (w.alloc (.cells #[Value.int .i64 0, .int .i64 0, .int .i64 0, .slice none 0 0, .int .i64 0] 40)) := (Below.refl _ w).alloc (Nat.le_refl _) _
  have h0 := h.below hb0
  unfold Ref at hrf
  have hot : ∀ W, TabM W Y t → Calls Try.prog 35 #[.pointer (some ⟨Y, 0, none⟩), .int .i64 (i : Nat), .int .u64 0, .int .i64 10755] W fun e w' => ∃ v', e = .returned v' ∧ w'.ownsRow W.heap.size 50 2 v' (othTo t (i : Nat) 0 10755 8).length (nvs (othTo t (i : Nat) 0 10755 8)) ∧ Below W.heap.size W w' := fun W hW => others_any hW (i : Nat) 0 10755
  have hgx : (t.gen : Int) ≤ 999999 := by omega
  have hrs : t.row.size = 11 := row_size h.len
  generalize othTo t (i : Nat) 0 10755 8 = L at *
  clear hg
  go_enter Try.func15, Try.ntmps15
  go_wp2_with (first
    | (go_at_call 33; (with_reducible refine (hrf _ h0).mono ?_); rintro e w1 ⟨rfl, hb1⟩; have h1 := h0.below hb1; have hm1 := hm0.below hb1 hm0.lt; have hbb := hb0.trans (hb1.mono hb0.size))
    | ((refine wpList_store_row rfl 40 (.tmp 8) (.tmp 16) rfl w1.heap.size #[Value.int .i64 0, .int .i64 0, .int .i64 0, .slice none 0 0, .int .i64 0] rfl rfl 40 #[Value.int .i64 0, .int .i64 0, .int .i64 0, .slice none 0 0, .int .i64 0] (Mem.new w1 _ _) (by kernel_rfl) (by kernel_rfl) (by kernel_rfl) ?_); obtain ⟨w2, e2, h2, hm2, hr2, hb2⟩ := row_new h1 hbb hm1 #[Value.int .i64 0, .int .i64 0, .int .i64 0, .slice none 0 0, .int .i64 0]; rw [← e2]; clear e2)
    | (go_at_call 35; (with_reducible refine (hot _ h2).mono ?_); rintro e w4 ⟨v4, rfl, ho4, hb4⟩; have h4 := h2.below hb4; have hm4 := hm2.below hb4 hm2.lt; have x10 := h4.c10; have hb5 := hb2.trans (hb4.mono hb2.size))
    | (refine wpList_store_row rfl 59 (.tmp 30) (.tmp 29) rfl Y #[Value.int .u64 0, .int .u64 0, .int .u64 0, .int .u64 0, .int .u64 0, .int .u64 0, .int .u64 0, .int .u64 0, .int .i64 (-1), .int .i64 0, .int .u32 ((t.gen : Int) + 1)] rfl rfl 59 t.row h4.mem (by kernel_rfl) (by rw [hrs]; rfl) (by kernel_rfl) ?_; obtain ⟨w5, e5, h6, hm6, k6, n6, z6⟩ := clear_row h4 hm4 hlt hb5; rw [← e5]; clear e5)
    | (go_at_call 31; (with_reducible refine (good_l _).mono ?_); rintro e w3 ⟨rfl, hb3⟩; have h7 := h6.below hb3; have hm7 := hm6.below hb3 hm6.lt; have k7 := k6.trans (Keeps.of hb3))
    | (refine wpList_store_row rfl 40 (.tmp 6) (.tmp 31) rfl w.heap.size #[Value.int .i64 0, .int .i64 0, .int .i64 0, .slice none 0 0, .int .i64 0] rfl rfl 40 #[Value.int .i64 0, .int .i64 0, .int .i64 0, .slice none 0 0, .int .i64 0] hm7 (by kernel_rfl) (by kernel_rfl) (by kernel_rfl) ?_))
  obtain ⟨g1, g2⟩ := keeps_row k7 hne h7 #[Value.int .i64 0, .int .i64 0, .int .i64 0, .slice none 0 0, .int .i64 0]
  refine bodyPost_ret (fin2 (p := 6) (a := 7) rfl _ _ w.heap.size 0 0 0 rfl (hm7.row _)) rfl ⟨_, rfl, ?_, g1, g2⟩
  have s2 := hb2.size
  have s4 := hm2.lt
  refine owns_mono (owns_at ho4 fun k hk => ?_) s2
  have o1 := own_tag ho4 k hk
  exact (setRow_other w3 w.heap.size k _ (by omega)).trans ((hb3.block k (by omega)).trans (n6 k (by omega)))
end
end Rv
end Go.Proofs.Ytgnpepkpbdddhaa
