/- gemellaw5: known. -/
import Derived.Test.YteeeioafhdkagaaDoorSn5
import Derived.Lib.SlBytesConst
namespace Go.Proofs.YteeeioafhdkagaaDoor
open Go.ChangeShapes Go.WideShapes Go.ChangeAt Go.RowKit
set_option linter.unusedVariables false
theorem conv_self (W : World) (o : Obj) : (convert 24 24 (.slice (some ⟨W.heap.size + 1, 0, none⟩) 1 1)).run Tryd.prog ((W.alloc o).alloc (.cells #[.int .u8 120] 5)) = .ok (.slice (some ⟨W.heap.size + 1, 0, none⟩) 1 1) ((W.alloc o).alloc (.cells #[.int .u8 120] 5 (1, 2))) := by
  have h := Lib.run_convert_bytes_const (P := Tryd.prog) (W.alloc o) 24 5 #[.int .u8 120] 1 1 Tryd.underlying24 Tryd.underlying5
  rw [show (W.alloc o).heap.size = W.heap.size + 1 by simp] at h
  exact h
theorem text_known : textB 2 5 8192 = ⟨#[99, 104, 101, 99, 107, 32, 53, 32, 56, 49, 57, 50]⟩ := by
  have e5 : Lib.itoa 5 = [53] := by simp [Lib.itoa, Lib.decDigits]
  have e8 : Lib.itoa 8192 = [56, 49, 57, 50] := by
    unfold Lib.itoa
    rw [if_neg (by omega)]
    show Lib.decDigits 8192 = _
    rw [Lib.decDigits, dif_neg (by omega), Lib.decDigits, dif_neg (by omega), Lib.decDigits, dif_neg (by omega), Lib.decDigits, dif_pos (by omega)]
    rfl
  unfold textB
  rw [e5, e8]
  rfl
set_option maxHeartbeats 4000000 in
theorem known5_any (w : World) (ht : Tab w) : Calls Tryd.prog 4 #[] w fun e w' => e = .returned (.bool true) ∧ Below w.heap.size w w' := by
  have c1 := sEncode_any
  have c4 : ∀ W, Calls Tryd.prog 9 #[.int .i64 5, .int .i64 8192] W _ := fun W => sWrong_any 5 8192 W
  have c5 : ∀ (W : World) (o : Obj), Calls Tryd.prog 10 #[.slice (some ⟨W.heap.size + 1, 0, none⟩) 1 1] ((W.alloc o).alloc (.cells #[.int .u8 120] 5 (1, 2))) fun e w' => ∃ A c, e = .returned (.agg #[.int .i64 0, .int .i64 0, .int .i64 0, .slice A 1 c, .int .i64 0]) ∧ Sl w' w'.heap.size (.slice A 1 c) 1 (bs [120]) ∧ Below ((W.alloc o).alloc (.cells #[.int .u8 120] 5 (1, 2))).heap.size ((W.alloc o).alloc (.cells #[.int .u8 120] 5 (1, 2))) w' := by
    intro W o
    have h := Good_any _ _ (Sl.freshM (W.alloc o) #[.int .u8 120] 5 (1, 2) (n := 1) (c := 1) rfl (Nat.le_refl _) (by unfold maxLen; omega))
    rw [show (W.alloc o).heap.size = W.heap.size + 1 by simp] at h
    exact h
  have kself := conv_self
  have c6 : ∀ W, Below w.heap.size w W → Calls Tryd.prog 5 #[.agg #[.int .i64 2, .int .i64 5, .int .i64 8192, .slice none 0 0, .int .i64 0]] W fun e w' => e = .returned (.string ⟨#[99, 104, 101, 99, 107, 32, 53, 32, 56, 49, 57, 50]⟩) ∧ Below W.heap.size W w' := by
    intro W hW
    have h := Text_any 2 5 8192 (by omega) (by omega) (by omega) (by omega) (by omega) (by omega) W (ht.below hW)
    rw [text_known] at h
    exact h
  have kc : ∀ W v, Sl W W.heap.size v 1 (bs [120]) → (convert 24 9 v).run Tryd.prog W = .ok (.string ⟨#[120]⟩) W := fun W v h =>
    bytes_str _ _ _ _ Tryd.underlying24 Tryd.underlying5 Tryd.underlying9 _ _ [120] _ h
  go_enter Tryd.func4, Tryd.ntmps4
  go_wp2_with (first
    | (go_at_call 6; with_reducible refine (c1 _).mono ?_; rintro e w1 ⟨vb, rfl, hs1, hb1⟩)
    | (go_at_call 7; with_reducible refine (sDecode_any _ _ hs1).mono ?_; rintro e w2 ⟨rfl, hb2⟩; have hb12 := bchain hb1 hb2)
    | (go_at_call 8; with_reducible refine (Inquiry_any _).mono ?_; rintro e w3 ⟨G, rfl, hGl, hG8, hb3⟩; have hb13 := bchain hb12 hb3)
    | (go_at_call 9; with_reducible refine (c4 _).mono ?_; rintro e w4 ⟨rfl, hb4⟩
       have hb14 := bchain hb13 hb4
       have hG4 := (hb4.cell (p := ⟨G, 8, none⟩) hGl).trans hG8
       have hGl4 : G < w4.heap.size := Nat.lt_of_lt_of_le hGl hb4.size
       have c5' := c5 w4 (.cells #[.int .i64 2, .int .i64 5, .int .i64 8192, .slice none 0 0, .int .i64 0] 26))
    | (go_at_call 10; with_reducible refine c5'.mono ?_; rintro e w6 ⟨A6, n6, rfl, hs6, hb6⟩
       have hU : Below w4.heap.size w4 w6 := (((Below.refl w4.heap.size w4).alloc (Nat.le_refl _) _).alloc (by simp) _).trans (hb6.mono (by simp; omega))
       have hR6 : w6.heap[w4.heap.size]? = some (.cells #[.int .i64 2, .int .i64 5, .int .i64 8192, .slice none 0 0, .int .i64 0] 26 (0, 0)) := (hb6.block w4.heap.size (by simp; omega)).trans ((Below.heap_alloc _ _ _ (by simp)).trans (heap_alloc_new w4 _))
       have hG6 := (hU.cell (p := ⟨G, 8, none⟩) hGl4).trans hG4
       have hlt6 : w4.heap.size < w6.heap.size := (Array.getElem?_eq_some_iff.1 hR6).1
       have hq : ∀ o b i u, b < w6.heap.size → w6.cell? ⟨b, i, none⟩ = some u → (w6.alloc o).cell? ⟨b, i, none⟩ = some u := fun o b i u hb h => (((Below.refl w6.heap.size w6).alloc (Nat.le_refl _) o).cell (p := ⟨b, i, none⟩) hb).trans h
       have q8 := fun o => hq o _ _ _ (Nat.lt_trans hGl4 hlt6) hG6
       have q0 := fun o => hq o _ _ _ hlt6 (cell_of_row w6 w4.heap.size 0 _ _ (0, 0) hR6)
       have q1 := fun o => hq o _ _ _ hlt6 (cell_of_row w6 w4.heap.size 1 _ _ (0, 0) hR6)
       have q2 := fun o => hq o _ _ _ hlt6 (cell_of_row w6 w4.heap.size 2 _ _ (0, 0) hR6)
       have q3 := fun o => hq o _ _ _ hlt6 (cell_of_row w6 w4.heap.size 3 _ _ (0, 0) hR6)
       have q4 := fun o => hq o _ _ _ hlt6 (cell_of_row w6 w4.heap.size 4 _ _ (0, 0) hR6)
       have hb16 := bchain hb14 hU
       have hbA := fun o => hb16.alloc hb16.size o
       have HQ := Lib.hid hq
       clear hq)
    | (go_at_call 5; with_reducible refine (c6 _ (hbA _)).mono ?_; rintro e w7 ⟨rfl, hb7⟩
       have y0 := (hb7.cell (p := ⟨w6.heap.size, 0, none⟩) (by simp)).trans (cell_of_row _ _ 0 _ _ (0, 0) (heap_alloc_new w6 _))
       have y3 := (hb7.cell (p := ⟨w6.heap.size, 3, none⟩) (by simp)).trans (cell_of_row _ _ 3 _ _ (0, 0) (heap_alloc_new w6 _))
       have kx := kc _ _ ((hs6.now ((Below.refl _ _).alloc (Nat.le_refl _) _)).now hb7)
       have hend := (hbA _).trans (hb7.mono (hbA _).size)))
  go_ret
  exact ⟨rfl, hend⟩
end Go.Proofs.YteeeioafhdkagaaDoor
