/- Package sense: Encode of one reply, Decode of its bytes, Inquiry, Wrong, Good: contracts. -/
import Derived.Test.YtflodljccloobaaSn1
import Derived.Deep.QuietTactic
import Derived.BigQuiet
namespace Go.Proofs.Ytflodljccloobaa
open Go.ChangeShapes Go.WideShapes Go.ChangeAt Go.RowKit
set_option linter.unusedVariables false
def e0 : List UInt8 := [240, 0, 14, 0, 0, 0, 7, 10, 0, 0, 0, 0, 29, 0, 0, 0, 0, 0]
def l1 : List UInt8 := splice (be 0 18) 0 (be 112 1)
def l2 : List UInt8 := splice l1 0 (be 240 1)
def l3 : List UInt8 := splice l2 2 (be 14 1)
def l4 : List UInt8 := splice l3 3 (be 7 4)
def l5 : List UInt8 := splice l4 7 (be 10 1)
def l6 : List UInt8 := splice l5 12 (be 7424 2)
theorem l6_is : l6 = e0 := by decide +kernel
theorem keep_cell {G : Nat} {a b : World} {p o : Nat} {v : Value} (h : Keeps G a b) (hp : p < a.heap.size) (hne : p ≠ G) (hc : a.cell? ⟨p, o, none⟩ = some v) : b.cell? ⟨p, o, none⟩ = some v := (h.cell (p := ⟨p, o, none⟩) hp hne).trans hc
set_option maxHeartbeats 2000000 in
theorem sEncode_any (w : World) :
    Calls Try.prog 44 #[.agg #[.int .i64 2, .int .i64 14, .int .i64 7424, .slice none 0 0, .int .i64 7]] w fun e w' => ∃ v, e = .returned v ∧ Sl w' w'.heap.size v 18 (bs e0) ∧ Below w.heap.size w w' := by
  have cb : ∀ W, Calls Try.prog 55 #[.int .i64 18] W _ := fun W => blank_any 18 (by omega) (by omega) W
  have c1 : ∀ W P G, BufAt W P G 18 (be 0 18) → Calls Try.prog 65 #[.int .i64 0, .int .u64 112, .int .i64 1, .pointer (some ⟨P, 0, none⟩)] W fun e w' => e = .returned (.tuple #[]) ∧ BufAt w' P G 18 l1 ∧ Keeps G W w' := fun W P G h => lay_any P G 18 _ 0 1 0 1 112 rfl rfl W h (by omega) (by omega) (by omega) 112 rfl
  have c2 : ∀ W P G, BufAt W P G 18 l1 → Calls Try.prog 65 #[.int .i64 0, .int .u64 240, .int .i64 1, .pointer (some ⟨P, 0, none⟩)] W fun e w' => e = .returned (.tuple #[]) ∧ BufAt w' P G 18 l2 ∧ Keeps G W w' := fun W P G h => lay_any P G 18 _ 0 1 0 1 240 rfl rfl W h (by omega) (by omega) (by omega) 240 rfl
  have c3 : ∀ W P G, BufAt W P G 18 l2 → Calls Try.prog 65 #[.int .i64 2, .int .u64 14, .int .i64 1, .pointer (some ⟨P, 0, none⟩)] W fun e w' => e = .returned (.tuple #[]) ∧ BufAt w' P G 18 l3 ∧ Keeps G W w' := fun W P G h => lay_any P G 18 _ 2 1 2 1 14 rfl rfl W h (by omega) (by omega) (by omega) 14 rfl
  have c4 : ∀ W P G, BufAt W P G 18 l3 → Calls Try.prog 65 #[.int .i64 3, .int .u64 7, .int .i64 4, .pointer (some ⟨P, 0, none⟩)] W fun e w' => e = .returned (.tuple #[]) ∧ BufAt w' P G 18 l4 ∧ Keeps G W w' := fun W P G h => lay_any P G 18 _ 3 4 3 4 7 rfl rfl W h (by omega) (by omega) (by omega) 7 rfl
  have c5 : ∀ W P G, BufAt W P G 18 l4 → Calls Try.prog 65 #[.int .i64 7, .int .u64 10, .int .i64 1, .pointer (some ⟨P, 0, none⟩)] W fun e w' => e = .returned (.tuple #[]) ∧ BufAt w' P G 18 l5 ∧ Keeps G W w' := fun W P G h => lay_any P G 18 _ 7 1 7 1 10 rfl rfl W h (by omega) (by omega) (by omega) 10 rfl
  have c6 : ∀ W P G, BufAt W P G 18 l5 → Calls Try.prog 65 #[.int .i64 12, .int .u64 7424, .int .i64 2, .pointer (some ⟨P, 0, none⟩)] W fun e w' => e = .returned (.tuple #[]) ∧ BufAt w' P G 18 l6 ∧ Keeps G W w' := fun W P G h => lay_any P G 18 _ 12 2 12 2 7424 rfl rfl W h (by omega) (by omega) (by omega) 7424 rfl
  have h1 : Below w.heap.size w (w.alloc (.cells #[.int .i64 2, .int .i64 14, .int .i64 7424, .slice none 0 0, .int .i64 7] 31)) := (Below.refl _ _).alloc (Nat.le_refl _) _
  have hz : (w.alloc (.cells #[.int .i64 2, .int .i64 14, .int .i64 7424, .slice none 0 0, .int .i64 7] 31)).heap.size = w.heap.size + 1 := by simp
  have k0 : ∀ j u, (#[.int .i64 2, .int .i64 14, .int .i64 7424, .slice none 0 0, .int .i64 7] : Array Value)[j]? = some u → (w.alloc (.cells #[.int .i64 2, .int .i64 14, .int .i64 7424, .slice none 0 0, .int .i64 7] 31)).cell? ⟨w.heap.size, j, none⟩ = some u := fun j u hu => (cell_of_row _ _ j _ _ (0, 0) (heap_alloc_new w _)).trans hu
  have kk1 := k0 1 _ rfl
  have kk2 := k0 2 _ rfl
  have kk4 := k0 4 _ rfl
  have hbit : bits .and .u64 14 15 = 14 := by decide +kernel
  have HZ := Lib.hid hz
  clear hz k0
  go_enter Try.func44, Try.ntmps44
  go_wp2_with (first
    | (go_at_call 55; with_reducible refine (cb _).mono ?_; rintro e w1 ⟨P, G, rfl, hbf, hG, hP, hb1⟩
       have hlt : w.heap.size < w1.heap.size := Nat.lt_of_lt_of_le (by rw [HZ.out]; exact Nat.lt_succ_self _) hb1.size
       have hne : w.heap.size ≠ G := by have := HZ.out; omega
       have hGw : w.heap.size ≤ G := Nat.le_trans h1.size hG
       have h11 := h1.trans (hb1.mono h1.size)
       have x1' := (hb1.cell (p := ⟨w.heap.size, 1, none⟩) (by rw [HZ.out]; exact Nat.lt_succ_self _)).trans kk1
       have x2' := (hb1.cell (p := ⟨w.heap.size, 2, none⟩) (by rw [HZ.out]; exact Nat.lt_succ_self _)).trans kk2
       have x1 := x1'
       have x2 := x2'
       have x4 := (hb1.cell (p := ⟨w.heap.size, 4, none⟩) (by rw [HZ.out]; exact Nat.lt_succ_self _)).trans kk4)
    | (go_at_call 65; with_reducible refine (c1 _ _ _ hbf).mono ?_; rintro e v1 ⟨rfl, hbf1, hk1⟩
       have hkc1 := hk1
       have x1 := keep_cell hkc1 hlt hne x1'
       have x2 := keep_cell hkc1 hlt hne x2')
    | (go_at_call 65; with_reducible refine (c2 _ _ _ hbf1).mono ?_; rintro e v2 ⟨rfl, hbf2, hk2⟩
       have hkc2 := hkc1.trans hk2
       have x1 := keep_cell hkc2 hlt hne x1'
       have x2 := keep_cell hkc2 hlt hne x2')
    | (go_at_call 65; with_reducible refine (c3 _ _ _ hbf2).mono ?_; rintro e v3 ⟨rfl, hbf3, hk3⟩
       have hkc3 := hkc2.trans hk3
       have x1 := keep_cell hkc3 hlt hne x1'
       have x2 := keep_cell hkc3 hlt hne x2')
    | (go_at_call 65; with_reducible refine (c4 _ _ _ hbf3).mono ?_; rintro e v4 ⟨rfl, hbf4, hk4⟩
       have hkc4 := hkc3.trans hk4
       have x1 := keep_cell hkc4 hlt hne x1'
       have x2 := keep_cell hkc4 hlt hne x2')
    | (go_at_call 65; with_reducible refine (c5 _ _ _ hbf4).mono ?_; rintro e v5 ⟨rfl, hbf5, hk5⟩
       have hkc5 := hkc4.trans hk5
       have x1 := keep_cell hkc5 hlt hne x1'
       have x2 := keep_cell hkc5 hlt hne x2')
    | (go_at_call 65; with_reducible refine (c6 _ _ _ hbf5).mono ?_; rintro e v6 ⟨rfl, hbf6, hk6⟩
       have hkc6 := hkc5.trans hk6
       have x1 := keep_cell hkc6 hlt hne x1'
       have x2 := keep_cell hkc6 hlt hne x2'))
  have hfin := h11.trans (hkc6.below hGw h11.size)
  have hsl := hbf6.sl
  rw [l6_is] at hsl
  go_ret
  exact ⟨_, rfl, hsl, hfin⟩
theorem sWrong_any (k c : Int) (w : World) : Calls Try.prog 21 #[.int .i64 k, .int .i64 c] w fun e w' => e = .returned (.agg #[.int .i64 2, .int .i64 k, .int .i64 c, .slice none 0 0, .int .i64 0]) ∧ Below w.heap.size w w' := by
  go_enter Try.func21, Try.ntmps21
  go_wp2
  exact bodyPost_ret (v := .agg #[.int .i64 2, .int .i64 k, .int .i64 c, .slice none 0 0, .int .i64 0]) (by simp [results, Try.results21, go_sem]) rfl ⟨rfl, (Below.refl _ _).alloc (Nat.le_refl _) _⟩
end Go.Proofs.Ytflodljccloobaa
