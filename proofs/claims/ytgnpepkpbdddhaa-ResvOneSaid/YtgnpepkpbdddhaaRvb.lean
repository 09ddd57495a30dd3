/- The reference's tables: what each act tells at a fresh one (for ResvOne). -/
import Derived.Test.YtgnpepkpbdddhaaRva
namespace Go.Proofs.Ytgnpepkpbdddhaa
open Go.ChangeShapes Go.WideShapes Go.ChangeAt Go.RowKit Go.Lib
set_option linter.unusedVariables false
set_option linter.unusedSimpArgs false
namespace Rv
/-- A fresh table of the reference in a block. -/
def FM (w : World) (X : Nat) : Prop := Mem w X 69 #[Value.int .u64 0, .int .u64 0, .int .u64 0, .int .u64 0, .int .u64 0, .int .u64 0, .int .u64 0, .int .u64 0, .int .i64 (-1), .int .i64 0, .int .u32 0]
theorem FM.key {w : World} {X : Nat} (h : FM w X) (i : Nat) (hi : i < 8) : w.cell? ⟨X, i, none⟩ = some (.int .u64 0) := by
  rw [Mem.cell h i]
  match i, hi with
  | 0, _ | 1, _ | 2, _ | 3, _ | 4, _ | 5, _ | 6, _ | 7, _ => rfl
section
variable {w w' : World} {X : Nat}
theorem fno_any (i : Int) (w : World) : Calls Try.prog 36 #[.int .i64 i] w fun e w' => e = .returned (.bool (decide (¬ (0 ≤ i ∧ i < 8)))) ∧ w = w' := by
  by_cases h0 : i < 0
  · rw [decide_eq_true (show ¬ (0 ≤ i ∧ i < 8) by omega)]
    go_enter Try.func36, Try.ntmps36
    go_wp2
    go_ret
    exact ⟨rfl, rfl⟩
  · by_cases h8 : 8 ≤ i
    · rw [decide_eq_true (show ¬ (0 ≤ i ∧ i < 8) by omega)]
      go_enter Try.func36, Try.ntmps36
      go_wp2
      go_ret
      exact ⟨rfl, rfl⟩
    · rw [decide_eq_false (show ¬ ¬ (0 ≤ i ∧ i < 8) by omega)]
      go_enter Try.func36, Try.ntmps36
      go_wp2
      go_ret
      exact ⟨rfl, rfl⟩
theorem fnot_any (h : FM w X) (i : Nat) (hi : i < 8) (key : Nat) : Calls Try.prog 41 #[.pointer (some ⟨X, 0, none⟩), .int .i64 (i : Nat), .int .u64 (key : Nat)] w fun e w' => e = .returned (.bool true) ∧ w = w' := by
  have y := h.key i hi
  have hix : (i : Int) < 8 := by omega
  go_enter Try.func41, Try.ntmps41
  go_wp2
  go_ret
  exact ⟨rfl, rfl⟩
theorem fnew_any (w : World) : Calls Try.prog 9 #[] w fun e w' => ∃ X, e = .returned (.pointer (some ⟨X, 0, none⟩)) ∧ w.heap.size ≤ X ∧ FM w' X ∧ Below w.heap.size w w' := by
  go_enter Try.func9, Try.ntmps9
  go_wp2
  go_ret
  exact ⟨w.heap.size, rfl, Nat.le_refl _, Mem.new w _ _, (Below.refl _ w).alloc (Nat.le_refl _) _⟩
theorem fgood_l (w : World) : Calls Try.prog 39 #[] w fun e w' => e = .returned (.agg #[Value.int .i64 0, .int .i64 0, .int .i64 0, .slice none 0 0, .int .i64 0]) ∧ Below w.heap.size w w' := by
  go_enter Try.func39, Try.ntmps39
  go_wp2
  exact bodyPost_ret (fin1 (p := 0) rfl _ _ w.heap.size 0 0 0 rfl (heap_alloc_new w _)) rfl ⟨rfl, (Below.refl _ w).alloc (Nat.le_refl _) _⟩
theorem fconf_l (w : World) : Calls Try.prog 38 #[] w fun e w' => e = .returned (.agg #[Value.int .i64 24, .int .i64 0, .int .i64 0, .slice none 0 0, .int .i64 0]) ∧ Below w.heap.size w w' := by
  go_enter Try.func38, Try.ntmps38
  go_wp2
  exact bodyPost_ret (fin1 (p := 0) rfl _ _ w.heap.size 24 0 0 rfl (heap_alloc_new w _)) rfl ⟨rfl, (Below.refl _ w).alloc (Nat.le_refl _) _⟩
theorem fwrong_l (c : Int) (w : World) : Calls Try.prog 37 #[.int .i64 c] w fun e w' => e = .returned (.agg #[Value.int .i64 2, .int .i64 5, .int .i64 c, .slice none 0 0, .int .i64 0]) ∧ Below w.heap.size w w' := by
  go_enter Try.func37, Try.ntmps37
  go_wp2
  exact bodyPost_ret (fin1 (p := 2) rfl _ _ w.heap.size 2 5 c rfl (heap_alloc_new w _)) rfl ⟨rfl, (Below.refl _ w).alloc (Nat.le_refl _) _⟩
/-- What an act of the reference tells at a fresh table: no notice. -/
def Frs (w : World) (X : Nat) (e : Ending) (w' : World) : Prop := ∃ s k c : Int, e = .returned (.tuple #[rep s k c, .slice none 0 0]) ∧ Keeps X w w'
def Frs1 (w : World) (X : Nat) (e : Ending) (w' : World) : Prop := ∃ s k c : Int, e = .returned (rep s k c) ∧ Keeps X w w' 
set_option maxRecDepth 100000 in
set_option maxHeartbeats 1000000 in
theorem fReserve_any (h : FM w X) (host : Int) (key : Nat) (y : Int) : Calls Try.prog 21 #[.pointer (some ⟨X, 0, none⟩), .int .i64 host, .int .u64 (key : Nat), .int .i64 y] w (Frs1 w X) := by
  have hm0 := Mem.new w 40 #[Value.int .i64 0, .int .i64 0, .int .i64 0, .slice none 0 0, .int .i64 0]
  have hb0 : Below w.heap.size w (w.alloc (.cells #[Value.int .i64 0, .int .i64 0, .int .i64 0, .slice none 0 0, .int .i64 0] 40)) := (Below.refl _ w).alloc (Nat.le_refl _) _
  have hlt := Mem.lt h
  have h0 : FM (w.alloc (.cells #[Value.int .i64 0, .int .i64 0, .int .i64 0, .slice none 0 0, .int .i64 0] 40)) X := Mem.alloc h _
  have hno := fun W => fno_any host W
  by_cases hh : 0 ≤ host ∧ host < 8
  · obtain ⟨i, rfl⟩ : ∃ i : Nat, host = (i : Nat) := ⟨host.toNat, by omega⟩
    rw [decide_eq_false (not_not_intro hh)] at hno
    have hi : i < 8 := by omega
    go_enter Try.func21, Try.ntmps21
    go_wp2_with (first
      | (go_at_call 36; (with_reducible refine (hno _).mono ?_); rintro e w1 ⟨rfl, rfl⟩)
      | (go_at_call 41; (with_reducible refine (fnot_any h0 i hi key).mono ?_); rintro e w1 ⟨rfl, rfl⟩)
      | (go_at_call 38; (with_reducible refine (fconf_l _).mono ?_); rintro e w2 ⟨rfl, hb2⟩; have hm2 := hm0.below hb2 hm0.lt)
      | (refine wpList_store_row rfl 40 (.tmp 8) (.tmp 18) rfl w.heap.size #[Value.int .i64 24, .int .i64 0, .int .i64 0, .slice none 0 0, .int .i64 0] rfl rfl 40 #[Value.int .i64 0, .int .i64 0, .int .i64 0, .slice none 0 0, .int .i64 0] hm2 (by kernel_rfl) (by kernel_rfl) (by kernel_rfl) ?_))
    have hb : Below w.heap.size w (w2.setRow w.heap.size #[Value.int .i64 24, .int .i64 0, .int .i64 0, .slice none 0 0, .int .i64 0]) := below_setRow (hb0.trans (hb2.mono hb0.size)) (Nat.le_refl _) _
    exact bodyPost_ret (fin1 (p := 8) rfl _ _ w.heap.size 24 0 0 rfl (hm2.row _)) rfl ⟨_, _, _, rfl, Keeps.of hb⟩
  · rw [decide_eq_true hh] at hno
    go_enter Try.func21, Try.ntmps21
    go_wp2_with (first
      | (go_at_call 36; (with_reducible refine (hno _).mono ?_); rintro e w1 ⟨rfl, rfl⟩)
      | (go_at_call 37; (with_reducible refine (fwrong_l _ _).mono ?_); rintro e w2 ⟨rfl, hb2⟩; have hm2 := hm0.below hb2 hm0.lt)
      | (refine wpList_store_row rfl 40 (.tmp 8) (.tmp 12) rfl w.heap.size #[Value.int .i64 2, .int .i64 5, .int .i64 9216, .slice none 0 0, .int .i64 0] rfl rfl 40 #[Value.int .i64 0, .int .i64 0, .int .i64 0, .slice none 0 0, .int .i64 0] hm2 (by kernel_rfl) (by kernel_rfl) (by kernel_rfl) ?_))
    have hb : Below w.heap.size w (w2.setRow w.heap.size #[Value.int .i64 2, .int .i64 5, .int .i64 9216, .slice none 0 0, .int .i64 0]) := below_setRow (hb0.trans (hb2.mono hb0.size)) (Nat.le_refl _) _
    exact bodyPost_ret (fin1 (p := 8) rfl _ _ w.heap.size 2 5 9216 rfl (hm2.row _)) rfl ⟨_, _, _, rfl, Keeps.of hb⟩
set_option maxRecDepth 100000 in
set_option maxHeartbeats 1000000 in
theorem fRelease_any (h : FM w X) (host : Int) (key : Nat) (y : Int) : Calls Try.prog 22 #[.pointer (some ⟨X, 0, none⟩), .int .i64 host, .int .u64 (key : Nat), .int .i64 y] w (Frs w X) := by
  have hm0 := Mem.new w 40 #[Value.int .i64 0, .int .i64 0, .int .i64 0, .slice none 0 0, .int .i64 0]
  have hb0 : Below w.heap.size w (w.alloc (.cells #[Value.int .i64 0, .int .i64 0, .int .i64 0, .slice none 0 0, .int .i64 0] 40)) := (Below.refl _ w).alloc (Nat.le_refl _) _
  have hlt := Mem.lt h
  have h0 : FM (w.alloc (.cells #[Value.int .i64 0, .int .i64 0, .int .i64 0, .slice none 0 0, .int .i64 0] 40)) X := Mem.alloc h _
  have hno := fun W => fno_any host W
  by_cases hh : 0 ≤ host ∧ host < 8
  · obtain ⟨i, rfl⟩ : ∃ i : Nat, host = (i : Nat) := ⟨host.toNat, by omega⟩
    rw [decide_eq_false (not_not_intro hh)] at hno
    have hi : i < 8 := by omega
    go_enter Try.func22, Try.ntmps22
    go_wp2_with (first
      | (go_at_call 36; (with_reducible refine (hno _).mono ?_); rintro e w1 ⟨rfl, rfl⟩)
      | (go_at_call 41; (with_reducible refine (fnot_any h0 i hi key).mono ?_); rintro e w1 ⟨rfl, rfl⟩)
      | (go_at_call 38; (with_reducible refine (fconf_l _).mono ?_); rintro e w2 ⟨rfl, hb2⟩; have hm2 := hm0.below hb2 hm0.lt)
      | (refine wpList_store_row rfl 40 (.tmp 8) (.tmp 19) rfl w.heap.size #[Value.int .i64 24, .int .i64 0, .int .i64 0, .slice none 0 0, .int .i64 0] rfl rfl 40 #[Value.int .i64 0, .int .i64 0, .int .i64 0, .slice none 0 0, .int .i64 0] hm2 (by kernel_rfl) (by kernel_rfl) (by kernel_rfl) ?_))
    have hb : Below w.heap.size w (w2.setRow w.heap.size #[Value.int .i64 24, .int .i64 0, .int .i64 0, .slice none 0 0, .int .i64 0]) := below_setRow (hb0.trans (hb2.mono hb0.size)) (Nat.le_refl _) _
    exact bodyPost_ret (fin2 (p := 8) (a := 9) rfl _ _ w.heap.size 24 0 0 rfl (hm2.row _)) rfl ⟨_, _, _, rfl, Keeps.of hb⟩
  · rw [decide_eq_true hh] at hno
    go_enter Try.func22, Try.ntmps22
    go_wp2_with (first
      | (go_at_call 36; (with_reducible refine (hno _).mono ?_); rintro e w1 ⟨rfl, rfl⟩)
      | (go_at_call 37; (with_reducible refine (fwrong_l _ _).mono ?_); rintro e w2 ⟨rfl, hb2⟩; have hm2 := hm0.below hb2 hm0.lt)
      | (refine wpList_store_row rfl 40 (.tmp 8) (.tmp 13) rfl w.heap.size #[Value.int .i64 2, .int .i64 5, .int .i64 9216, .slice none 0 0, .int .i64 0] rfl rfl 40 #[Value.int .i64 0, .int .i64 0, .int .i64 0, .slice none 0 0, .int .i64 0] hm2 (by kernel_rfl) (by kernel_rfl) (by kernel_rfl) ?_))
    have hb : Below w.heap.size w (w2.setRow w.heap.size #[Value.int .i64 2, .int .i64 5, .int .i64 9216, .slice none 0 0, .int .i64 0]) := below_setRow (hb0.trans (hb2.mono hb0.size)) (Nat.le_refl _) _
    exact bodyPost_ret (fin2 (p := 8) (a := 9) rfl _ _ w.heap.size 2 5 9216 rfl (hm2.row _)) rfl ⟨_, _, _, rfl, Keeps.of hb⟩
set_option maxRecDepth 100000 in
set_option maxHeartbeats 1000000 in
theorem fClear_any (h : FM w X) (host : Int) (key : Nat)  : Calls Try.prog 23 #[.pointer (some ⟨X, 0, none⟩), .int .i64 host, .int .u64 (key : Nat)] w (Frs w X) := by
  have hm0 := Mem.new w 40 #[Value.int .i64 0, .int .i64 0, .int .i64 0, .slice none 0 0, .int .i64 0]
  have hb0 : Below w.heap.size w (w.alloc (.cells #[Value.int .i64 0, .int .i64 0, .int .i64 0, .slice none 0 0, .int .i64 0] 40)) := (Below.refl _ w).alloc (Nat.le_refl _) _
  have hlt := Mem.lt h
  have h0 : FM (w.alloc (.cells #[Value.int .i64 0, .int .i64 0, .int .i64 0, .slice none 0 0, .int .i64 0] 40)) X := Mem.alloc h _
  have hno := fun W => fno_any host W
  by_cases hh : 0 ≤ host ∧ host < 8
  · obtain ⟨i, rfl⟩ : ∃ i : Nat, host = (i : Nat) := ⟨host.toNat, by omega⟩
    rw [decide_eq_false (not_not_intro hh)] at hno
    have hi : i < 8 := by omega
    go_enter Try.func23, Try.ntmps23
    go_wp2_with (first
      | (go_at_call 36; (with_reducible refine (hno _).mono ?_); rintro e w1 ⟨rfl, rfl⟩)
      | (go_at_call 41; (with_reducible refine (fnot_any h0 i hi key).mono ?_); rintro e w1 ⟨rfl, rfl⟩)
      | (go_at_call 38; (with_reducible refine (fconf_l _).mono ?_); rintro e w2 ⟨rfl, hb2⟩; have hm2 := hm0.below hb2 hm0.lt)
      | (refine wpList_store_row rfl 40 (.tmp 6) (.tmp 18) rfl w.heap.size #[Value.int .i64 24, .int .i64 0, .int .i64 0, .slice none 0 0, .int .i64 0] rfl rfl 40 #[Value.int .i64 0, .int .i64 0, .int .i64 0, .slice none 0 0, .int .i64 0] hm2 (by kernel_rfl) (by kernel_rfl) (by kernel_rfl) ?_))
    have hb : Below w.heap.size w (w2.setRow w.heap.size #[Value.int .i64 24, .int .i64 0, .int .i64 0, .slice none 0 0, .int .i64 0]) := below_setRow (hb0.trans (hb2.mono hb0.size)) (Nat.le_refl _) _
    exact bodyPost_ret (fin2 (p := 6) (a := 7) rfl _ _ w.heap.size 24 0 0 rfl (hm2.row _)) rfl ⟨_, _, _, rfl, Keeps.of hb⟩
  · rw [decide_eq_true hh] at hno
    go_enter Try.func23, Try.ntmps23
    go_wp2_with (first
      | (go_at_call 36; (with_reducible refine (hno _).mono ?_); rintro e w1 ⟨rfl, rfl⟩)
      | (go_at_call 37; (with_reducible refine (fwrong_l _ _).mono ?_); rintro e w2 ⟨rfl, hb2⟩; have hm2 := hm0.below hb2 hm0.lt)
      | (refine wpList_store_row rfl 40 (.tmp 6) (.tmp 12) rfl w.heap.size #[Value.int .i64 2, .int .i64 5, .int .i64 9216, .slice none 0 0, .int .i64 0] rfl rfl 40 #[Value.int .i64 0, .int .i64 0, .int .i64 0, .slice none 0 0, .int .i64 0] hm2 (by kernel_rfl) (by kernel_rfl) (by kernel_rfl) ?_))
    have hb : Below w.heap.size w (w2.setRow w.heap.size #[Value.int .i64 2, .int .i64 5, .int .i64 9216, .slice none 0 0, .int .i64 0]) := below_setRow (hb0.trans (hb2.mono hb0.size)) (Nat.le_refl _) _
    exact bodyPost_ret (fin2 (p := 6) (a := 7) rfl _ _ w.heap.size 2 5 9216 rfl (hm2.row _)) rfl ⟨_, _, _, rfl, Keeps.of hb⟩
set_option maxRecDepth 100000 in
set_option maxHeartbeats 1000000 in
theorem fPreempt_any (h : FM w X) (host : Int) (key : Nat) (other : Nat) (y : Int) : Calls Try.prog 24 #[.pointer (some ⟨X, 0, none⟩), .int .i64 host, .int .u64 (key : Nat), .int .u64 (other : Nat), .int .i64 y] w (Frs w X) := by
  have hm0 := Mem.new w 40 #[Value.int .i64 0, .int .i64 0, .int .i64 0, .slice none 0 0, .int .i64 0]
  have hb0 : Below w.heap.size w (w.alloc (.cells #[Value.int .i64 0, .int .i64 0, .int .i64 0, .slice none 0 0, .int .i64 0] 40)) := (Below.refl _ w).alloc (Nat.le_refl _) _
  have hlt := Mem.lt h
  have h0 : FM (w.alloc (.cells #[Value.int .i64 0, .int .i64 0, .int .i64 0, .slice none 0 0, .int .i64 0] 40)) X := Mem.alloc h _
  have hno := fun W => fno_any host W
  by_cases hh : 0 ≤ host ∧ host < 8
  · obtain ⟨i, rfl⟩ : ∃ i : Nat, host = (i : Nat) := ⟨host.toNat, by omega⟩
    rw [decide_eq_false (not_not_intro hh)] at hno
    have hi : i < 8 := by omega
    go_enter Try.func24, Try.ntmps24
    go_wp2_with (first
      | (go_at_call 36; (with_reducible refine (hno _).mono ?_); rintro e w1 ⟨rfl, rfl⟩)
      | (go_at_call 41; (with_reducible refine (fnot_any h0 i hi key).mono ?_); rintro e w1 ⟨rfl, rfl⟩)
      | (go_at_call 38; (with_reducible refine (fconf_l _).mono ?_); rintro e w2 ⟨rfl, hb2⟩; have hm2 := hm0.below hb2 hm0.lt)
      | (refine wpList_store_row rfl 40 (.tmp 10) (.tmp 24) rfl w.heap.size #[Value.int .i64 24, .int .i64 0, .int .i64 0, .slice none 0 0, .int .i64 0] rfl rfl 40 #[Value.int .i64 0, .int .i64 0, .int .i64 0, .slice none 0 0, .int .i64 0] hm2 (by kernel_rfl) (by kernel_rfl) (by kernel_rfl) ?_))
    have hb : Below w.heap.size w (w2.setRow w.heap.size #[Value.int .i64 24, .int .i64 0, .int .i64 0, .slice none 0 0, .int .i64 0]) := below_setRow (hb0.trans (hb2.mono hb0.size)) (Nat.le_refl _) _
    exact bodyPost_ret (fin2 (p := 10) (a := 11) rfl _ _ w.heap.size 24 0 0 rfl (hm2.row _)) rfl ⟨_, _, _, rfl, Keeps.of hb⟩
  · rw [decide_eq_true hh] at hno
    go_enter Try.func24, Try.ntmps24
    go_wp2_with (first
      | (go_at_call 36; (with_reducible refine (hno _).mono ?_); rintro e w1 ⟨rfl, rfl⟩)
      | (go_at_call 37; (with_reducible refine (fwrong_l _ _).mono ?_); rintro e w2 ⟨rfl, hb2⟩; have hm2 := hm0.below hb2 hm0.lt)
      | (refine wpList_store_row rfl 40 (.tmp 10) (.tmp 18) rfl w.heap.size #[Value.int .i64 2, .int .i64 5, .int .i64 9216, .slice none 0 0, .int .i64 0] rfl rfl 40 #[Value.int .i64 0, .int .i64 0, .int .i64 0, .slice none 0 0, .int .i64 0] hm2 (by kernel_rfl) (by kernel_rfl) (by kernel_rfl) ?_))
    have hb : Below w.heap.size w (w2.setRow w.heap.size #[Value.int .i64 2, .int .i64 5, .int .i64 9216, .slice none 0 0, .int .i64 0]) := below_setRow (hb0.trans (hb2.mono hb0.size)) (Nat.le_refl _) _
    exact bodyPost_ret (fin2 (p := 10) (a := 11) rfl _ _ w.heap.size 2 5 9216 rfl (hm2.row _)) rfl ⟨_, _, _, rfl, Keeps.of hb⟩
set_option maxRecDepth 100000 in
set_option maxHeartbeats 2000000 in
theorem fRegister_any (h : FM w X) (host : Int) (key fresh : Nat) (ign : Bool) : Calls Try.prog 20 #[.pointer (some ⟨X, 0, none⟩), .int .i64 host, .int .u64 (key : Nat), .int .u64 (fresh : Nat), .bool ign] w (Frs w X) := by
  have hm0 := Mem.new w 40 #[Value.int .i64 0, .int .i64 0, .int .i64 0, .slice none 0 0, .int .i64 0]
  have hb0 : Below w.heap.size w (w.alloc (.cells #[Value.int .i64 0, .int .i64 0, .int .i64 0, .slice none 0 0, .int .i64 0] 40)) := (Below.refl _ w).alloc (Nat.le_refl _) _
  have hlt := Mem.lt h
  have hne : X ≠ w.heap.size := by omega
  have h0 : FM (w.alloc (.cells #[Value.int .i64 0, .int .i64 0, .int .i64 0, .slice none 0 0, .int .i64 0] 40)) X := Mem.alloc h _
  have hno := fun W => fno_any host W
  by_cases hh : 0 ≤ host ∧ host < 8
  · obtain ⟨i, rfl⟩ : ∃ i : Nat, host = (i : Nat) := ⟨host.toNat, by omega⟩
    rw [decide_eq_false (not_not_intro hh)] at hno
    have hi : i < 8 := by omega
    have hix : (i : Int) < 8 := by omega
    have y0 := h0.key i hi
    have q0 := Mem.free h0 i
    have p1 := Mem.put h i (.int .u64 (fresh : Nat))
    have p1a := Mem.alloc p1 (.cells #[Value.int .i64 0, .int .i64 0, .int .i64 0, .slice none 0 0, .int .i64 0] 40)
    have x1 : ((w.setCell ⟨X, i, none⟩ (.int .u64 (fresh : Nat))).alloc (.cells #[Value.int .i64 0, .int .i64 0, .int .i64 0, .slice none 0 0, .int .i64 0] 40)).cell? ⟨X, 10, none⟩ = some (.int .u32 0) := by
      rw [p1a.cell 10, Array.getElem?_setIfInBounds]
      rw [if_neg (by omega)]
      rfl
    have q1 := p1a.free 10
    have p2 := Mem.put p1 10 (.int .u32 1)
    have p2a := Mem.alloc p2 (.cells #[Value.int .i64 0, .int .i64 0, .int .i64 0, .slice none 0 0, .int .i64 0] 40)
    have x2 : (((w.setCell ⟨X, i, none⟩ (.int .u64 (fresh : Nat))).setCell ⟨X, 10, none⟩ (.int .u32 1)).alloc (.cells #[Value.int .i64 0, .int .i64 0, .int .i64 0, .slice none 0 0, .int .i64 0] 40)).cell? ⟨X, 8, none⟩ = some (.int .i64 (-1)) := by
      rw [p2a.cell 8, Array.getElem?_setIfInBounds, if_neg (by omega), Array.getElem?_setIfInBounds, if_neg (by omega)]
      rfl
    have k2 : Keeps X w ((w.setCell ⟨X, i, none⟩ (.int .u64 (fresh : Nat))).setCell ⟨X, 10, none⟩ (.int .u32 1)) := ((Keeps.refl X w).setCell (p := ⟨X, i, none⟩) _).setCell (p := ⟨X, 10, none⟩) _
    have hm1 : Mem (((w.setCell ⟨X, i, none⟩ (.int .u64 (fresh : Nat))).setCell ⟨X, 10, none⟩ (.int .u32 1)).alloc (.cells #[Value.int .i64 0, .int .i64 0, .int .i64 0, .slice none 0 0, .int .i64 0] 40)) w.heap.size 40 #[Value.int .i64 0, .int .i64 0, .int .i64 0, .slice none 0 0, .int .i64 0] := by have := Mem.new ((w.setCell ⟨X, i, none⟩ (.int .u64 (fresh : Nat))).setCell ⟨X, 10, none⟩ (.int .u32 1)) 40 #[Value.int .i64 0, .int .i64 0, .int .i64 0, .slice none 0 0, .int .i64 0]; simpa using this
    have k2a := k2.trans (Keeps.of ((Below.refl _ ((w.setCell ⟨X, i, none⟩ (.int .u64 (fresh : Nat))).setCell ⟨X, 10, none⟩ (.int .u32 1))).alloc (Nat.le_refl _) (.cells #[Value.int .i64 0, .int .i64 0, .int .i64 0, .slice none 0 0, .int .i64 0] 40)))
    have d1 : ((-1 : Int) == (i : Int)) = false := beq_eq_false_iff_ne.2 (by omega)
    have d2 : ¬ (-1 : Int) = (i : Int) := by omega
    clear p1 p1a p2 p2a k2
    have fin : ∀ (w3 : World) (s : Int), Keeps X w w3 → Keeps X w (w3.setRow w.heap.size #[Value.int .i64 s, .int .i64 0, .int .i64 0, .slice none 0 0, .int .i64 0]) := fun w3 s k => ⟨k.os, k.tape, k.output, by simpa [World.setRow] using k.size, fun j hj hn => (setRow_other w3 w.heap.size j _ (by omega)).trans (k.block j hj hn)⟩
    by_cases hc : ign = false ∧ key ≠ 0
    · obtain ⟨rfl, hk⟩ := hc
      have e1 : ¬ (0 : Int) = (key : Int) := by omega
      have e2 : ((0 : Int) != (key : Int)) = true := bne_iff_ne.2 e1
      clear hk
      go_enter Try.func20, Try.ntmps20
      go_wp2_with (first
        | (go_at_call 36; (with_reducible refine (hno _).mono ?_); rintro e w1 ⟨rfl, rfl⟩)
        | (go_at_call 38; (with_reducible refine (fconf_l _).mono ?_); rintro e w2 ⟨rfl, hb2⟩; have hm2 := hm0.below hb2 hm0.lt)
        | (refine wpList_store_row rfl 40 (.tmp 10) (.tmp 27) rfl w.heap.size #[Value.int .i64 24, .int .i64 0, .int .i64 0, .slice none 0 0, .int .i64 0] rfl rfl 40 #[Value.int .i64 0, .int .i64 0, .int .i64 0, .slice none 0 0, .int .i64 0] hm2 (by kernel_rfl) (by kernel_rfl) (by kernel_rfl) ?_))
      have hb : Below w.heap.size w (w2.setRow w.heap.size #[Value.int .i64 24, .int .i64 0, .int .i64 0, .slice none 0 0, .int .i64 0]) := below_setRow (hb0.trans (hb2.mono hb0.size)) (Nat.le_refl _) _
      exact bodyPost_ret (fin2 (p := 10) (a := 11) rfl _ _ w.heap.size 24 0 0 rfl (hm2.row _)) rfl ⟨_, _, _, rfl, Keeps.of hb⟩
    · have two : ign = true ∨ (ign = false ∧ key = 0) := by
        cases ign with
        | true => exact .inl rfl
        | false => exact .inr ⟨rfl, Classical.byContradiction fun h => hc ⟨rfl, h⟩⟩
      clear hc
      generalize (fresh : Int) = F at *
      have f12 : F = 0 ∨ (¬ F = 0 ∧ (F == 0) = false) := by
        by_cases f : F = 0
        · exact .inl f
        · exact .inr ⟨f, beq_eq_false_iff_ne.2 f⟩
      rcases two with rfl | ⟨rfl, rfl⟩
      all_goals
        rcases f12 with rfl | ⟨f1, f2⟩
        all_goals
          go_enter Try.func20, Try.ntmps20
          go_wp2_with (first
            | (go_at_call 36; (with_reducible refine (hno _).mono ?_); rintro e w1 ⟨rfl, rfl⟩)
            | (go_at_call 39; (with_reducible refine (fgood_l _).mono ?_); rintro e w3 ⟨rfl, hb3⟩; have hm3 := hm1.below hb3 hm1.lt; have k3 := k2a.trans (Keeps.of hb3))
            | (refine wpList_store_row rfl 40 (.tmp 10) (.tmp 55) rfl w.heap.size #[Value.int .i64 0, .int .i64 0, .int .i64 0, .slice none 0 0, .int .i64 0] rfl rfl 40 #[Value.int .i64 0, .int .i64 0, .int .i64 0, .slice none 0 0, .int .i64 0] hm3 (by kernel_rfl) (by kernel_rfl) (by kernel_rfl) ?_))
          exact bodyPost_ret (fin2 (p := 10) (a := 11) rfl _ _ w.heap.size 0 0 0 rfl (hm3.row _)) rfl ⟨_, _, _, rfl, fin w3 0 k3⟩
  · rw [decide_eq_true hh] at hno
    go_enter Try.func20, Try.ntmps20
    go_wp2_with (first
      | (go_at_call 36; (with_reducible refine (hno _).mono ?_); rintro e w1 ⟨rfl, rfl⟩)
      | (go_at_call 37; (with_reducible refine (fwrong_l _ _).mono ?_); rintro e w2 ⟨rfl, hb2⟩; have hm2 := hm0.below hb2 hm0.lt)
      | (refine wpList_store_row rfl 40 (.tmp 10) (.tmp 14) rfl w.heap.size #[Value.int .i64 2, .int .i64 5, .int .i64 9216, .slice none 0 0, .int .i64 0] rfl rfl 40 #[Value.int .i64 0, .int .i64 0, .int .i64 0, .slice none 0 0, .int .i64 0] hm2 (by kernel_rfl) (by kernel_rfl) (by kernel_rfl) ?_))
    have hb : Below w.heap.size w (w2.setRow w.heap.size #[Value.int .i64 2, .int .i64 5, .int .i64 9216, .slice none 0 0, .int .i64 0]) := below_setRow (hb0.trans (hb2.mono hb0.size)) (Nat.le_refl _) _
    exact bodyPost_ret (fin2 (p := 10) (a := 11) rfl _ _ w.heap.size 2 5 9216 rfl (hm2.row _)) rfl ⟨_, _, _, rfl, Keeps.of hb⟩
end
end Rv
end Go.Proofs.Ytgnpepkpbdddhaa
