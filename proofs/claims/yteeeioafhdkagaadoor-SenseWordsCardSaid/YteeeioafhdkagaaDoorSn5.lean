/- Package sense: Inquiry, Good; gemellaw5: known. -/
import Derived.Test.YteeeioafhdkagaaDoorSn4
namespace Go.Proofs.YteeeioafhdkagaaDoor
open Go.ChangeShapes Go.WideShapes Go.ChangeAt Go.RowKit
set_option linter.unusedVariables false
def q1 : List UInt8 := splice (be 0 36) 2 (be 5 1)
def q2 : List UInt8 := splice q1 3 (be 2 1)
def q3 : List UInt8 := splice q2 4 (be 31 1)
set_option maxHeartbeats 2000000 in
theorem Inquiry_any (w : World) : Calls Tryd.prog 8 #[] w fun e w' => ∃ G, e = .returned (.slice (some ⟨G, 0, none⟩) 36 36) ∧ G < w'.heap.size ∧ w'.cell? ⟨G, 8, none⟩ = some (.int .u8 71) ∧ Below w.heap.size w w' := by
  have cb : ∀ W, Calls Tryd.prog 12 #[.int .i64 36] W _ := fun W => blank_any 36 (by omega) (by omega) W
  obtain ⟨i0, hi, hz0, hz1, hz2⟩ := info_parts (show (Tryd.prog.info? 5).map (fun i => (i.zero, i.size, i.bytes)) = some (some (.int .u8 0), 1, 1) by kernel_rfl)
  have c1 : ∀ W P G, BufAt W P G 36 (be 0 36) → Calls Tryd.prog 16 #[.int .i64 2, .int .u64 5, .int .i64 1, .pointer (some ⟨P, 0, none⟩)] W fun e w' => e = .returned (.tuple #[]) ∧ BufAt w' P G 36 q1 ∧ Keeps G W w' := fun W P G h => lay_any P G 36 _ 2 1 2 1 5 rfl rfl W h (by omega) (by omega) (by omega) 5 rfl
  have c2 : ∀ W P G, BufAt W P G 36 q1 → Calls Tryd.prog 16 #[.int .i64 3, .int .u64 2, .int .i64 1, .pointer (some ⟨P, 0, none⟩)] W fun e w' => e = .returned (.tuple #[]) ∧ BufAt w' P G 36 q2 ∧ Keeps G W w' := fun W P G h => lay_any P G 36 _ 3 1 3 1 2 rfl rfl W h (by omega) (by omega) (by omega) 2 rfl
  have c3 : ∀ W P G, BufAt W P G 36 q2 → Calls Tryd.prog 16 #[.int .i64 4, .int .u64 31, .int .i64 1, .pointer (some ⟨P, 0, none⟩)] W fun e w' => e = .returned (.tuple #[]) ∧ BufAt w' P G 36 q3 ∧ Keeps G W w' := fun W P G h => lay_any P G 36 _ 4 1 4 1 31 rfl rfl W h (by omega) (by omega) (by omega) 31 rfl
  have cp : ∀ W P G, BufAt W P G 36 q3 → ∀ ty, (Builtin.copy_ #[24, 9] ty #[.slice (some ⟨G, 8, none⟩) 28 28, .string ⟨#[71, 69, 77, 69, 76, 32, 32, 32, 84, 87, 73, 78, 32, 68, 73, 83, 75, 32, 32, 32, 32, 32, 32, 32, 48, 48, 48, 49]⟩]).run Tryd.prog W = .ok (goInt 28) (W.setRow G ((bs q3).take 8 ++ Lib.byteCells (⟨#[71, 69, 77, 69, 76, 32, 32, 32, 84, 87, 73, 78, 32, 68, 73, 83, 75, 32, 32, 32, 32, 32, 32, 32, 48, 48, 48, 49]⟩ : ByteArray).data.toList ++ (bs q3).drop 36).toArray) := fun W P G h ty =>
    Lib.run_copy_row_string W 24 9 ty 5 G 8 28 28 ⟨#[71, 69, 77, 69, 76, 32, 32, 32, 84, 87, 73, 78, 32, 68, 73, 83, 75, 32, 32, 32, 32, 32, 32, 32, 48, 48, 48, 49]⟩ (bs q3).toArray 5 Tryd.underlying24 (by rw [hi]; simp [hz1]) h.g (by decide) (by decide +kernel)
  go_enter Tryd.func8, Tryd.ntmps8
  go_wp2_with (first
    | (go_at_call 12; with_reducible refine (cb _).mono ?_; rintro e w1 ⟨P, G, rfl, hbf, hG, hP, hb1⟩)
    | (go_at_call 16; with_reducible refine (c1 _ _ _ hbf).mono ?_; rintro e v1 ⟨rfl, hbf1, hk1⟩; have hkc1 := hk1)
    | (go_at_call 16; with_reducible refine (c2 _ _ _ hbf1).mono ?_; rintro e v2 ⟨rfl, hbf2, hk2⟩; have hkc2 := hkc1.trans hk2)
    | (go_at_call 16; with_reducible refine (c3 _ _ _ hbf2).mono ?_; rintro e v3 ⟨rfl, hbf3, hk3⟩; have hkc3 := hkc2.trans hk3; have hcp := cp _ _ _ hbf3))
  have hrow := setRow_heap v3 G _ ((bs q3).take 8 ++ Lib.byteCells (⟨#[71, 69, 77, 69, 76, 32, 32, 32, 84, 87, 73, 78, 32, 68, 73, 83, 75, 32, 32, 32, 32, 32, 32, 32, 48, 48, 48, 49]⟩ : ByteArray).data.toList ++ (bs q3).drop 36).toArray _ _ hbf3.g
  have hG8 : (v3.setRow G ((bs q3).take 8 ++ Lib.byteCells (⟨#[71, 69, 77, 69, 76, 32, 32, 32, 84, 87, 73, 78, 32, 68, 73, 83, 75, 32, 32, 32, 32, 32, 32, 32, 48, 48, 48, 49]⟩ : ByteArray).data.toList ++ (bs q3).drop 36).toArray).cell? ⟨G, 8, none⟩ = some (.int .u8 71) := (cell_of_row _ G 8 _ _ (0, 0) hrow).trans (by kernel_rfl)
  have hend : Below w.heap.size w (v3.setRow G ((bs q3).take 8 ++ Lib.byteCells (⟨#[71, 69, 77, 69, 76, 32, 32, 32, 84, 87, 73, 78, 32, 68, 73, 83, 75, 32, 32, 32, 32, 32, 32, 32, 48, 48, 48, 49]⟩ : ByteArray).data.toList ++ (bs q3).drop 36).toArray) := hb1.trans ((hkc3.setRow _).below hG hb1.size)
  have hlt : G < (v3.setRow G ((bs q3).take 8 ++ Lib.byteCells (⟨#[71, 69, 77, 69, 76, 32, 32, 32, 84, 87, 73, 78, 32, 68, 73, 83, 75, 32, 32, 32, 32, 32, 32, 32, 48, 48, 48, 49]⟩ : ByteArray).data.toList ++ (bs q3).drop 36).toArray).heap.size := (Array.getElem?_eq_some_iff.1 hrow).1
  rw [List.append_assoc] at hG8 hend hlt
  go_ret
  exact ⟨G, rfl, hlt, hG8, hend⟩
theorem sl_keep1 {a b : World} {g o n c : Nat} {xs : List Value} (h : Sl a a.heap.size (.slice (some ⟨g, o, none⟩) n c) n xs) (hc : ∀ i, b.cell? ⟨g, i, none⟩ = a.cell? ⟨g, i, none⟩) (hs : a.heap.size ≤ b.heap.size) : Sl b b.heap.size (.slice (some ⟨g, o, none⟩) n c) n xs := by
  obtain ⟨hl, A, c', e, h1, h2, h3⟩ := h
  injection e with e1 e2 e3
  subst e1; subst e3
  refine ⟨hl, _, _, rfl, h1, h2, fun hx => ?_⟩
  obtain ⟨b', off, ea, hlt, hcc⟩ := h3 hx
  cases ea
  exact ⟨g, o, rfl, Nat.lt_of_lt_of_le hlt hs, fun j u hu => (hc _).trans (hcc j u hu)⟩
theorem store5 {w : World} {R : Nat} {t : TypeId} {r0 r1 r2 r3 r4 : Value} (y0 y1 y2 y3 y4 : Value) (h : w.heap[R]? = some (.cells #[r0, r1, r2, r3, r4] t (0, 0))) :
    (((((w.setCell ⟨R, 0, none⟩ y0).setCell ⟨R, 1, none⟩ y1).setCell ⟨R, 2, none⟩ y2).setCell ⟨R, 3, none⟩ y3).setCell ⟨R, 4, none⟩ y4).heap[R]? = some (.cells #[y0, y1, y2, y3, y4] t (0, 0)) := by
  have a0 := heap_setCell_same w R 0 _ _ y0 h
  have a1 := heap_setCell_same _ R 1 _ _ y1 a0
  have a2 := heap_setCell_same _ R 2 _ _ y2 a1
  have a3 := heap_setCell_same _ R 3 _ _ y3 a2
  have a4 := heap_setCell_same _ R 4 _ _ y4 a3
  rw [a4]
  simp
set_option maxHeartbeats 1000000 in
theorem Good_any (v : Value) (w : World) (hv : Sl w w.heap.size v 1 (bs [120])) : Calls Tryd.prog 10 #[v] w fun e w' => ∃ A c, e = .returned (.agg #[.int .i64 0, .int .i64 0, .int .i64 0, .slice A 1 c, .int .i64 0]) ∧ Sl w' w'.heap.size (.slice A 1 c) 1 (bs [120]) ∧ Below w.heap.size w w' := by
  obtain ⟨i0, hi, hz0, hz1, hz2⟩ := info_parts (show (Tryd.prog.info? 5).map (fun i => (i.zero, i.size, i.bytes)) = some (some (.int .u8 0), 1, 1) by kernel_rfl)
  have h1 : Below w.heap.size w (w.alloc (.cells #[.int .i64 0, .int .i64 0, .int .i64 0, .slice none 0 0, .int .i64 0] 26)) := (Below.refl _ _).alloc (Nat.le_refl _) _
  have hr : (w.alloc (.cells #[.int .i64 0, .int .i64 0, .int .i64 0, .slice none 0 0, .int .i64 0] 26)).heap[w.heap.size]? = some (.cells #[.int .i64 0, .int .i64 0, .int .i64 0, .slice none 0 0, .int .i64 0] 26 (0, 0)) := heap_alloc_new w _
  have hv1 := hv.now h1
  have hz : w.heap.size < (w.alloc (.cells #[.int .i64 0, .int .i64 0, .int .i64 0, .slice none 0 0, .int .i64 0] 26)).heap.size := by simp
  go_enter Tryd.func10, Tryd.ntmps10
  go_wp2_with (at_builtin; refine wpList_append_sl _ rfl (.const (.slice none 0 0)) (.tmp 3) _ rfl w.heap.size 5 i0 _ Tryd.underlying24 hi hz0 hz1 (by omega) rfl _ 0 [] rfl (World.ownsRow_nil _ _ _ _) _ v 1 (bs [120]) rfl hv1 bs_one (by omega) h1.size ?_; intro v2 w2 hown2 hg2 hat2
               have hr2 := (hg2.block w.heap.size hz (fun h => by cases h)).trans hr
               have fz := fun j => frozen_of_row w2 w.heap.size j _ _ hr2
               have x0 := cell_of_row w2 w.heap.size 0 _ _ (0, 0) hr2
               have x1 := cell_of_row w2 w.heap.size 1 _ _ (0, 0) hr2
               have x2 := cell_of_row w2 w.heap.size 2 _ _ (0, 0) hr2
               have x3 := cell_of_row w2 w.heap.size 3 _ _ (0, 0) hr2
               have x4 := cell_of_row w2 w.heap.size 4 _ _ (0, 0) hr2
               obtain ⟨A2, c2, rfl, _, _⟩ := (Sl.of_own hown2).form)
  have hsl2 := Sl.of_own hown2
  obtain ⟨g, o, rfl, hgl, hgc⟩ := hsl2.at_ (by omega)
  have hgne : g ≠ w.heap.size := by
    rcases hat2 with h | h
    · cases h
    · have h2 : g = (w.alloc (.cells #[.int .i64 0, .int .i64 0, .int .i64 0, .slice none 0 0, .int .i64 0] 26)).heap.size := Option.some.inj h
      omega
  have hb2 : Below w.heap.size w w2 := h1.grown hg2 h1.size (fun k hk => by cases hk)
  have hb5 := ((((hb2.setCell (p := ⟨w.heap.size, 0, none⟩) (Nat.le_refl _) (.int .i64 0)).setCell (p := ⟨w.heap.size, 1, none⟩) (Nat.le_refl _) (.int .i64 0)).setCell (p := ⟨w.heap.size, 2, none⟩) (Nat.le_refl _) (.int .i64 0)).setCell (p := ⟨w.heap.size, 3, none⟩) (Nat.le_refl _) (.slice (some ⟨g, o, none⟩) 1 c2)).setCell (p := ⟨w.heap.size, 4, none⟩) (Nat.le_refl _) (.int .i64 0)
  have hr5 := store5 (.int .i64 0) (.int .i64 0) (.int .i64 0) (.slice (some ⟨g, o, none⟩) 1 c2) (.int .i64 0) hr2
  have hgb : ∀ (u : World) (j : Nat) (x : Value), (u.setCell ⟨w.heap.size, j, none⟩ x).heap[g]? = u.heap[g]? := fun u j x => Below.heap_setCell u ⟨w.heap.size, j, none⟩ x g hgne
  have hge : (((((w2.setCell ⟨w.heap.size, 0, none⟩ (.int .i64 0)).setCell ⟨w.heap.size, 1, none⟩ (.int .i64 0)).setCell ⟨w.heap.size, 2, none⟩ (.int .i64 0)).setCell ⟨w.heap.size, 3, none⟩ (.slice (some ⟨g, o, none⟩) 1 c2)).setCell ⟨w.heap.size, 4, none⟩ (.int .i64 0)).heap[g]? = w2.heap[g]? := by
    rw [hgb, hgb, hgb, hgb, hgb]
  have hsz5 : w2.heap.size ≤ (((((w2.setCell ⟨w.heap.size, 0, none⟩ (.int .i64 0)).setCell ⟨w.heap.size, 1, none⟩ (.int .i64 0)).setCell ⟨w.heap.size, 2, none⟩ (.int .i64 0)).setCell ⟨w.heap.size, 3, none⟩ (.slice (some ⟨g, o, none⟩) 1 c2)).setCell ⟨w.heap.size, 4, none⟩ (.int .i64 0)).heap.size := by simp
  clear hgb x0 x1 x2 x3 x4 fz hr hr2 hown2 hg2 hat2 hgc hv1
  generalize ((((w2.setCell ⟨w.heap.size, 0, none⟩ (.int .i64 0)).setCell ⟨w.heap.size, 1, none⟩ (.int .i64 0)).setCell ⟨w.heap.size, 2, none⟩ (.int .i64 0)).setCell ⟨w.heap.size, 3, none⟩ (.slice (some ⟨g, o, none⟩) 1 c2)).setCell ⟨w.heap.size, 4, none⟩ (.int .i64 0) = W at *
  have y0 := cell_of_row W w.heap.size 0 _ _ (0, 0) hr5
  have y1 := cell_of_row W w.heap.size 1 _ _ (0, 0) hr5
  have y2 := cell_of_row W w.heap.size 2 _ _ (0, 0) hr5
  have y3 := cell_of_row W w.heap.size 3 _ _ (0, 0) hr5
  have y4 := cell_of_row W w.heap.size 4 _ _ (0, 0) hr5
  refine bodyPost_ret (v := .agg #[.int .i64 0, .int .i64 0, .int .i64 0, .slice (some ⟨g, o, none⟩) 1 c2, .int .i64 0]) ?_ rfl ⟨_, _, rfl, sl_keep1 hsl2 (fun i => World.cell?_of_block (w := w2) hge) hsz5, hb5⟩
  simp [results, Tryd.results10, asAddr, go_sem, y0, y1, y2, y3, y4]
end Go.Proofs.YteeeioafhdkagaaDoor
