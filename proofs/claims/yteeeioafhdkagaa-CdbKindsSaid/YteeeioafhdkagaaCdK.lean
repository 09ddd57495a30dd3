/- gemellaw4: known. -/
import Derived.Test.YteeeioafhdkagaaCd6
namespace Go.Proofs.Yteeeioafhdkagaa
open Go.ChangeShapes Go.WideShapes Go.ChangeAt Go.RowKit
set_option linter.unusedVariables false
theorem enc_read : encS 2 258 3 0 false = [136, 0, 0, 0, 0, 0, 0, 0, 1, 2, 0, 0, 0, 3, 0, 0] := by decide +kernel
set_option maxHeartbeats 2000000 in
theorem known4_any (w : World) : Calls Try.prog 9 #[] w fun e w' => e = .returned (.bool true) ∧ Below w.heap.size w w' := by
  have c1 : ∀ W, Calls Try.prog 12 #[.agg #[.int .i64 2, .int .i64 258, .int .i64 3, .slice none 0 0, .int .u64 0, .int .u64 0, .int .i64 0, .bool false]] W fun e w' => ∃ A c, e = .returned (.tuple #[.slice A 16 c, .int .i64 0]) ∧ Sl w' w'.heap.size (.slice A 16 c) 16 (bs [136, 0, 0, 0, 0, 0, 0, 0, 1, 2, 0, 0, 0, 3, 0, 0]) ∧ 16 ≤ c ∧ Below W.heap.size W w' := by
    intro W
    have h : Calls Try.prog 12 #[.agg #[.int .i64 2, .int .i64 258, .int .i64 3, .slice none 0 0, .int .u64 0, .int .u64 0, .int .i64 0, .bool false]] W _ := Encode_ok 2 258 3 0 false (by omega) (by omega) (by omega) rfl W
    refine h.mono ?_
    rintro e w' ⟨v, rfl, hs, hb⟩
    rw [enc_read] at hs
    obtain ⟨A, c, rfl, h1, _⟩ := hs.form
    exact ⟨A, c, rfl, hs, h1, hb⟩
  have c2 : ∀ W v, Sl W W.heap.size v 16 (bs [136, 0, 0, 0, 0, 0, 0, 0, 1, 2, 0, 0, 0, 3, 0, 0]) → Calls Try.prog 13 #[v] W fun e w' => e = .returned (.tuple #[.agg #[.int .i64 2, .int .i64 258, .int .i64 3, .slice none 0 0, .int .u64 0, .int .u64 0, .int .i64 0, .bool false], .agg #[.int .i64 0, .int .i64 0, .int .i64 0, .slice none 0 0, .int .i64 0], .bool true]) ∧ Below W.heap.size W w' :=
    fun W v h => Decode_ok v _ 2 258 3 0 false W h rfl (by decide +kernel) (by omega) ⟨16, by decide +kernel⟩
  have c3 : ∀ (W : World), Calls Try.prog 13 #[.slice (some ⟨W.heap.size, 0, none⟩) 1 1] (W.alloc (.cells #[.int .u8 1] 5)) fun e w' => e = .returned (.tuple #[.agg #[.int .i64 0, .int .i64 0, .int .i64 0, .slice none 0 0, .int .u64 0, .int .u64 0, .int .i64 0, .bool false], .agg #[.int .i64 2, .int .i64 5, .int .i64 8192, .slice none 0 0, .int .i64 0], .bool false]) ∧ Below (W.alloc (.cells #[.int .u8 1] 5)).heap.size (W.alloc (.cells #[.int .u8 1] 5)) w' :=
    fun W => Decode_short _ [1] _ (Sl.fresh W #[.int .u8 1] 5 (n := 1) rfl (by unfold maxLen; omega)) (by simp)
  have c4 : ∀ W, Calls Try.prog 11 #[.agg #[.int .i64 2, .int .i64 258, .int .i64 3, .slice none 0 0, .int .u64 0, .int .u64 0, .int .i64 0, .bool false]] W fun e w' => e = .returned (.int .i64 24) ∧ Below W.heap.size W w' := fun W => In_any 2 258 3 0 false W
  have c5 : ∀ W, Calls Try.prog 10 #[.agg #[.int .i64 2, .int .i64 258, .int .i64 3, .slice none 0 0, .int .u64 0, .int .u64 0, .int .i64 0, .bool false]] W fun e w' => e = .returned (.int .i64 0) ∧ Below W.heap.size W w' := fun W => Out_any 2 258 3 0 false W
  go_enter Try.func9, Try.ntmps9
  go_wp2_with (first
    | (go_at_call 12; with_reducible refine (c1 _).mono ?_; rintro e w1 ⟨Ab, cb, rfl, hs1, hcb, hb1⟩; obtain ⟨bb, ob, rfl, hbb, hcell⟩ := hs1.at_ (by omega)
       have x0 : w1.cell? ⟨bb, ob + 0, none⟩ = some (.int .u8 136) := hcell 0 _ rfl
       have x9 : w1.cell? ⟨bb, ob + 9, none⟩ = some (.int .u8 2) := hcell 9 _ rfl
       rw [Nat.add_zero] at x0)
    | (go_at_call 13; with_reducible refine (c2 _ _ hs1).mono ?_; rintro e w2 ⟨rfl, hb2⟩
       have h12 := bchain hb1 hb2
       have hbb2 : bb < w2.heap.size := Nat.lt_of_lt_of_le hbb hb2.size
       have y0 := (hb2.cell (p := ⟨bb, ob, none⟩) hbb).trans x0
       have y9 := (hb2.cell (p := ⟨bb, ob + 9, none⟩) hbb).trans x9
       have hA2 := ((Below.refl w2.heap.size w2).alloc (Nat.le_refl _) (.cells #[.int .i64 2, .int .i64 258, .int .i64 3, .slice none 0 0, .int .u64 0, .int .u64 0, .int .i64 0, .bool false] 27)).alloc (by simp) (.cells #[.int .i64 0, .int .i64 0, .int .i64 0, .slice none 0 0, .int .i64 0] 35)
       have hc2 : CmdAt ((w2.alloc (.cells #[.int .i64 2, .int .i64 258, .int .i64 3, .slice none 0 0, .int .u64 0, .int .u64 0, .int .i64 0, .bool false] 27)).alloc (.cells #[.int .i64 0, .int .i64 0, .int .i64 0, .slice none 0 0, .int .i64 0] 35)) w2.heap.size 2 258 3 0 false := CmdAt.alloc (heap_alloc_new w2 _) _
       have c3' := c3 ((w2.alloc (.cells #[.int .i64 2, .int .i64 258, .int .i64 3, .slice none 0 0, .int .u64 0, .int .u64 0, .int .i64 0, .bool false] 27)).alloc (.cells #[.int .i64 0, .int .i64 0, .int .i64 0, .slice none 0 0, .int .i64 0] 35))
       rw [show ((w2.alloc (.cells #[.int .i64 2, .int .i64 258, .int .i64 3, .slice none 0 0, .int .u64 0, .int .u64 0, .int .i64 0, .bool false] 27)).alloc (.cells #[.int .i64 0, .int .i64 0, .int .i64 0, .slice none 0 0, .int .i64 0] 35)).heap.size = w2.heap.size + 1 + 1 by simp] at c3')
    | (go_at_call 13; with_reducible refine c3'.mono ?_; rintro e w3 ⟨rfl, hb3⟩
       have hc3 : CmdAt w3 w2.heap.size 2 258 3 0 false := (hb3.block _ (by simp; omega)).trans (hc2.alloc _)
       have hb23 : Below w2.heap.size w2 w3 := (hA2.alloc (by simp; omega) _).trans (hb3.mono (by simp; omega))
       have hlt3 : w2.heap.size < w3.heap.size := (Array.getElem?_eq_some_iff.1 hc3).1
       have z0 := (hb23.cell (p := ⟨bb, ob, none⟩) hbb2).trans y0
       have z9 := (hb23.cell (p := ⟨bb, ob + 9, none⟩) hbb2).trans y9
       have hq : ∀ o o' b i u, b < w3.heap.size → w3.cell? ⟨b, i, none⟩ = some u → ((w3.alloc o).alloc o').cell? ⟨b, i, none⟩ = some u := fun o o' b i u hb h => ((((Below.refl w3.heap.size w3).alloc (Nat.le_refl _) o).alloc (by simp) o').cell (p := ⟨b, i, none⟩) hb).trans h
       obtain ⟨k0, k1, k2, k3, k4, k5, k6, k7⟩ := hc3.cells
       have q0 := fun o o' => hq o o' _ _ _ hlt3 k0
       have q1 := fun o o' => hq o o' _ _ _ hlt3 k1
       have q2 := fun o o' => hq o o' _ _ _ hlt3 k2
       have q3 := fun o o' => hq o o' _ _ _ hlt3 k3
       have q4 := fun o o' => hq o o' _ _ _ hlt3 k4
       have q5 := fun o o' => hq o o' _ _ _ hlt3 k5
       have q6 := fun o o' => hq o o' _ _ _ hlt3 k6
       have q7 := fun o o' => hq o o' _ _ _ hlt3 k7
       have u0 := fun o o' => hq o o' _ _ _ (Nat.lt_trans hbb2 hlt3) z0
       have u9 := fun o o' => hq o o' _ _ _ (Nat.lt_trans hbb2 hlt3) z9
       have h13 := h12.trans (hb23.mono h12.size)
       have HQ := Lib.hid hq
       clear hq)
    | (go_at_call 11; with_reducible refine (c4 _).mono ?_; rintro e w5 ⟨rfl, hb5⟩
       have p0 := (hb5.cell (p := ⟨w2.heap.size, 0, none⟩) (by simp; omega)).trans (q0 _ _)
       have p1 := (hb5.cell (p := ⟨w2.heap.size, 1, none⟩) (by simp; omega)).trans (q1 _ _)
       have p2 := (hb5.cell (p := ⟨w2.heap.size, 2, none⟩) (by simp; omega)).trans (q2 _ _)
       have p3 := (hb5.cell (p := ⟨w2.heap.size, 3, none⟩) (by simp; omega)).trans (q3 _ _)
       have p4 := (hb5.cell (p := ⟨w2.heap.size, 4, none⟩) (by simp; omega)).trans (q4 _ _)
       have p5 := (hb5.cell (p := ⟨w2.heap.size, 5, none⟩) (by simp; omega)).trans (q5 _ _)
       have p6 := (hb5.cell (p := ⟨w2.heap.size, 6, none⟩) (by simp; omega)).trans (q6 _ _)
       have p7 := (hb5.cell (p := ⟨w2.heap.size, 7, none⟩) (by simp; omega)).trans (q7 _ _)
       have h15 := h13.trans ((((Below.refl w3.heap.size w3).alloc (Nat.le_refl _) _).alloc (by simp) _).mono h13.size |>.trans (hb5.mono (Nat.le_trans h13.size (by simp; omega)))))
    | (go_at_call 10; with_reducible refine (c5 _).mono ?_; rintro e w6 ⟨rfl, hb6⟩))
  go_ret
  exact ⟨rfl, h15.trans (hb6.mono h15.size)⟩
end Go.Proofs.Yteeeioafhdkagaa
