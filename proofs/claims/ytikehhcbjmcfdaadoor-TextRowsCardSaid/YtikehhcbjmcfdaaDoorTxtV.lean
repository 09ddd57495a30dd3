/- Package text: the table of results; Lesser, Greater: contracts. -/
import Derived.Test.YtikehhcbjmcfdaaDoorTxtC
import Derived.Test.YtikehhcbjmcfdaaDoorTxtN
import Derived.Laws.EntriesVeiled
import Derived.Deep.WholeRow
namespace Go.Proofs.YtikehhcbjmcfdaaDoor
open Go.ChangeShapes Go.WideShapes Go.ChangeAt Go.RowKit
set_option linter.unusedVariables false
def tableV : Value := .agg #[.func (.func 28) #[] #[], .func (.func 31) #[] #[], .func (.func 33) #[] #[], .func (.func 34) #[] #[]]
theorem results_any (w : World) :
    Calls Tryd.prog 19 #[] w fun e w' => e = .returned tableV ∧ Below w.heap.size w w' := by
  go_enter Tryd.func19, Tryd.ntmps19
  go_wp2
  refine bodyPost_ret (v := tableV) ?_ rfl ⟨rfl, (Below.refl _ _).alloc (Nat.le_refl _) _⟩
  have h := run_loadVar_new (P := Tryd.prog) w 47 #[.func (.func 28) #[] #[], .func (.func 31) #[] #[], .func (.func 33) #[] #[], .func (.func 34) #[] #[]] 4 24 Tryd.underlying47 (by kernel_rfl)
  simp [results, Tryd.results19, asAddr]
  exact h
theorem min_any (x y : Int) (w : World) (h1 : -9223372036854775808 ≤ x) (h2 : x ≤ 9223372036854775807) (h3 : -9223372036854775808 ≤ y) (h4 : y ≤ 9223372036854775807) :
    Calls Tryd.prog 30 #[.int .i64 x, .int .i64 y] w fun e w' => e = .returned (.int .i64 (min x y)) ∧ w = w' := by
  go_enter Tryd.func30, Tryd.ntmps30
  go_wp2
  go_ret
  exact ⟨rfl, rfl⟩
theorem max_any (x y : Int) (w : World) (h1 : -9223372036854775808 ≤ x) (h2 : x ≤ 9223372036854775807) (h3 : -9223372036854775808 ≤ y) (h4 : y ≤ 9223372036854775807) :
    Calls Tryd.prog 32 #[.int .i64 x, .int .i64 y] w fun e w' => e = .returned (.int .i64 (max x y)) ∧ w = w' := by
  go_enter Tryd.func32, Tryd.ntmps32
  go_wp2
  go_ret
  exact ⟨rfl, rfl⟩
theorem numR_bd {b : Int} {m : Nat} (hb : 1 < b) (l : List UInt8) : 0 ≤ (numR b m l).1 ∧ (numR b m l).1 < b ^ m := by
  have hp : (0 : Int) < b ^ m := Int.pow_pos (by omega)
  unfold numR
  split
  · exact ⟨Int.le_refl _, hp⟩
  · rename_i h
    split
    · rename_i v hv
      have h1 := numFrom_bd (b := b) (by omega) l 0 v 0 hv (Int.le_refl _) (by simp)
      refine ⟨h1.1, ?_⟩
      have h2 : b ^ (0 + l.length) ≤ b ^ m := by
        obtain ⟨d, hd⟩ : ∃ d, m = 0 + l.length + d := ⟨m - l.length, by omega⟩
        have h3 : (0 : Int) < b ^ d := Int.pow_pos (by omega)
        have h4 : (0 : Int) < b ^ (0 + l.length) := Int.pow_pos (by omega)
        have h5 := Int.mul_le_mul_of_nonneg_left (show (1 : Int) ≤ b ^ d by omega) (by omega : 0 ≤ b ^ (0 + l.length))
        rw [Int.mul_one, ← Int.pow_add, ← hd] at h5
        exact h5
      exact Int.lt_of_lt_of_le h1.2 h2
    · exact ⟨Int.le_refl _, hp⟩
theorem numS_bd (l : List UInt8) : 0 ≤ (numS l).1 ∧ (numS l).1 ≤ 999999999 := by
  unfold numS
  split
  · have := numR_bd (b := 16) (m := 7) (by omega) (Lib.trimPrefix l [48, 120])
    simp at this
    omega
  · split
    · exact ⟨Int.le_refl _, by show (0 : Int) ≤ 999999999; omega⟩
    · have := numR_bd (b := 10) (m := 9) (by omega) l
      simp at this
      omega
theorem table_at0 (w : World) : (Instr.index 47 (.agg (#[Value.func (.func 28) #[] #[], .func (.func 31) #[] #[], .func (.func 33) #[] #[], .func (.func 34) #[] #[]])) (.int .i64 0)).run Tryd.prog w = .ok (.func (.func 28) #[] #[]) w := by kernel_rfl
theorem table_at1 (w : World) : (Instr.index 47 (.agg (#[Value.func (.func 28) #[] #[], .func (.func 31) #[] #[], .func (.func 33) #[] #[], .func (.func 34) #[] #[]])) (.int .i64 1)).run Tryd.prog w = .ok (.func (.func 31) #[] #[]) w := by kernel_rfl
theorem table_at2 (w : World) : (Instr.index 47 (.agg (#[Value.func (.func 28) #[] #[], .func (.func 31) #[] #[], .func (.func 33) #[] #[], .func (.func 34) #[] #[]])) (.int .i64 2)).run Tryd.prog w = .ok (.func (.func 33) #[] #[]) w := by kernel_rfl
theorem table_at3 (w : World) : (Instr.index 47 (.agg (#[Value.func (.func 28) #[] #[], .func (.func 31) #[] #[], .func (.func 33) #[] #[], .func (.func 34) #[] #[]])) (.int .i64 3)).run Tryd.prog w = .ok (.func (.func 34) #[] #[]) w := by kernel_rfl
/-- Are both numbers? -/
def bothN (a b : ByteArray) : Bool := (numS a.data.toList).2 && (numS b.data.toList).2
set_option maxHeartbeats 1000000 in
theorem ofNumbers_min (a b t : ByteArray) (w : World) (ha : a.size ≤ maxLen) (hb : b.size ≤ maxLen)
    (hI : bothN a b = true → ∀ W, Below w.heap.size w W → Calls Tryd.prog 41 #[.int .i64 (min (numS a.data.toList).1 (numS b.data.toList).1)] W fun e w' => e = .returned (.string t) ∧ Below W.heap.size W w') :
    Calls Tryd.prog 29 #[.string a, .string b, .func (.func 30) #[] #[]] w fun e w' => e = .returned (.tuple #[.string (if bothN a b then t else ⟨#[]⟩), .bool (bothN a b)]) ∧ Below w.heap.size w w' := by
  have na : ∀ W, Calls Tryd.prog 10 #[.string a] W fun e w' => e = .returned (.tuple #[.int .i64 (numS a.data.toList).1, .bool (numS a.data.toList).2]) ∧ W = w' := fun W => Number_any a W ha
  have nb : ∀ W, Calls Tryd.prog 10 #[.string b] W fun e w' => e = .returned (.tuple #[.int .i64 (numS b.data.toList).1, .bool (numS b.data.toList).2]) ∧ W = w' := fun W => Number_any b W hb
  have hx := numS_bd a.data.toList
  have hy := numS_bd b.data.toList
  unfold bothN at hI ⊢
  generalize (numS a.data.toList).1 = x at *
  generalize (numS b.data.toList).1 = y at *
  generalize (numS a.data.toList).2 = p at *
  generalize (numS b.data.toList).2 = q at *
  cases p <;> cases q
  case true.true =>
    have hI' := hI rfl
    clear hI
    go_enter Tryd.func29, Tryd.ntmps29
    go_wp2_with (first
      | (go_at_call 10; with_reducible refine (na _).mono ?_; rintro e w' ⟨rfl, rfl⟩)
      | (go_at_call 10; with_reducible refine (nb _).mono ?_; rintro e w' ⟨rfl, rfl⟩)
      | (go_at_call 30; refine (min_any x y _ (by omega) (by omega) (by omega) (by omega)).mono ?_; rintro e w' ⟨rfl, rfl⟩)
      | (go_at_call 41; refine (hI' _ (Below.refl _ _)).mono ?_; rintro e w' ⟨rfl, hb1⟩))
    all_goals exact bodyPost_ret (v := .tuple #[.string t, .bool true]) (by simp [results, Tryd.results29, go_sem]) rfl ⟨rfl, hb1⟩
  all_goals clear hI
  all_goals go_enter Tryd.func29, Tryd.ntmps29
  all_goals go_wp2_with (first
      | (go_at_call 10; with_reducible refine (na _).mono ?_; rintro e w' ⟨rfl, rfl⟩)
      | (go_at_call 10; with_reducible refine (nb _).mono ?_; rintro e w' ⟨rfl, rfl⟩))
  all_goals exact bodyPost_ret (v := .tuple #[.string ⟨#[]⟩, .bool false]) (by simp [results, Tryd.results29, go_sem]) rfl ⟨rfl, Below.refl _ _⟩
theorem results1_any (a b t : ByteArray) (w : World) (ha : a.size ≤ maxLen) (hb : b.size ≤ maxLen)
    (hI : bothN a b = true → ∀ W, Below w.heap.size w W → Calls Tryd.prog 41 #[.int .i64 (min (numS a.data.toList).1 (numS b.data.toList).1)] W fun e w' => e = .returned (.string t) ∧ Below W.heap.size W w') :
    Calls Tryd.prog 28 #[.string a, .string b] w fun e w' => e = .returned (.tuple #[.string (if bothN a b then t else ⟨#[]⟩), .bool (bothN a b)]) ∧ Below w.heap.size w w' := by
  have h := ofNumbers_min a b t w ha hb hI
  generalize (if bothN a b then t else ⟨#[]⟩) = u at *
  generalize bothN a b = p at *
  clear hI
  go_enter Tryd.func28, Tryd.ntmps28
  go_wp2_with (go_at_call 29; refine h.mono ?_; rintro e w' ⟨rfl, hb1⟩)
  exact bodyPost_ret (v := .tuple #[.string u, .bool p]) (by simp [results, Tryd.results28, go_sem]) rfl ⟨rfl, hb1⟩
theorem Lesser_any (a b t : ByteArray) (w : World) (ha : a.size ≤ maxLen) (hb : b.size ≤ maxLen)
    (hI : bothN a b = true → ∀ W, Below w.heap.size w W → Calls Tryd.prog 41 #[.int .i64 (min (numS a.data.toList).1 (numS b.data.toList).1)] W fun e w' => e = .returned (.string t) ∧ Below W.heap.size W w') :
    Calls Tryd.prog 8 #[.string a, .string b] w fun e w' => e = .returned (.tuple #[.string (if bothN a b then t else ⟨#[]⟩), .bool (bothN a b)]) ∧ Below w.heap.size w w' := by
  have h : ∀ W, Below w.heap.size w W → Calls Tryd.prog 28 #[.string a, .string b] W fun e w' => e = .returned (.tuple #[.string (if bothN a b then t else ⟨#[]⟩), .bool (bothN a b)]) ∧ Below W.heap.size W w' :=
    fun W hW => results1_any a b t W ha hb (fun hp V hV => hI hp V (hW.trans (hV.mono hW.size)))
  generalize (if bothN a b then t else ⟨#[]⟩) = u at *
  generalize bothN a b = p at *
  clear hI
  have hix := table_at0
  go_enter Tryd.func8, Tryd.ntmps8
  go_wp2_with (first
    | (go_at_call 19; refine (results_any _).mono ?_; rintro e w1 ⟨rfl, hb1⟩; unfold tableV)
    | (go_at_call 28; refine (h _ hb1).mono ?_; rintro e w2 ⟨rfl, hb2⟩))
  exact bodyPost_ret (v := .tuple #[.string u, .bool p]) (by simp [results, Tryd.results8, go_sem]) rfl ⟨rfl, hb1.trans (hb2.mono hb1.size)⟩
set_option maxHeartbeats 1000000 in
theorem ofNumbers_max (a b t : ByteArray) (w : World) (ha : a.size ≤ maxLen) (hb : b.size ≤ maxLen)
    (hI : bothN a b = true → ∀ W, Below w.heap.size w W → Calls Tryd.prog 41 #[.int .i64 (max (numS a.data.toList).1 (numS b.data.toList).1)] W fun e w' => e = .returned (.string t) ∧ Below W.heap.size W w') :
    Calls Tryd.prog 29 #[.string a, .string b, .func (.func 32) #[] #[]] w fun e w' => e = .returned (.tuple #[.string (if bothN a b then t else ⟨#[]⟩), .bool (bothN a b)]) ∧ Below w.heap.size w w' := by
  have na : ∀ W, Calls Tryd.prog 10 #[.string a] W fun e w' => e = .returned (.tuple #[.int .i64 (numS a.data.toList).1, .bool (numS a.data.toList).2]) ∧ W = w' := fun W => Number_any a W ha
  have nb : ∀ W, Calls Tryd.prog 10 #[.string b] W fun e w' => e = .returned (.tuple #[.int .i64 (numS b.data.toList).1, .bool (numS b.data.toList).2]) ∧ W = w' := fun W => Number_any b W hb
  have hx := numS_bd a.data.toList
  have hy := numS_bd b.data.toList
  unfold bothN at hI ⊢
  generalize (numS a.data.toList).1 = x at *
  generalize (numS b.data.toList).1 = y at *
  generalize (numS a.data.toList).2 = p at *
  generalize (numS b.data.toList).2 = q at *
  cases p <;> cases q
  case true.true =>
    have hI' := hI rfl
    clear hI
    go_enter Tryd.func29, Tryd.ntmps29
    go_wp2_with (first
      | (go_at_call 10; with_reducible refine (na _).mono ?_; rintro e w' ⟨rfl, rfl⟩)
      | (go_at_call 10; with_reducible refine (nb _).mono ?_; rintro e w' ⟨rfl, rfl⟩)
      | (go_at_call 32; refine (max_any x y _ (by omega) (by omega) (by omega) (by omega)).mono ?_; rintro e w' ⟨rfl, rfl⟩)
      | (go_at_call 41; refine (hI' _ (Below.refl _ _)).mono ?_; rintro e w' ⟨rfl, hb1⟩))
    all_goals exact bodyPost_ret (v := .tuple #[.string t, .bool true]) (by simp [results, Tryd.results29, go_sem]) rfl ⟨rfl, hb1⟩
  all_goals clear hI
  all_goals go_enter Tryd.func29, Tryd.ntmps29
  all_goals go_wp2_with (first
      | (go_at_call 10; with_reducible refine (na _).mono ?_; rintro e w' ⟨rfl, rfl⟩)
      | (go_at_call 10; with_reducible refine (nb _).mono ?_; rintro e w' ⟨rfl, rfl⟩))
  all_goals exact bodyPost_ret (v := .tuple #[.string ⟨#[]⟩, .bool false]) (by simp [results, Tryd.results29, go_sem]) rfl ⟨rfl, Below.refl _ _⟩
theorem results2_any (a b t : ByteArray) (w : World) (ha : a.size ≤ maxLen) (hb : b.size ≤ maxLen)
    (hI : bothN a b = true → ∀ W, Below w.heap.size w W → Calls Tryd.prog 41 #[.int .i64 (max (numS a.data.toList).1 (numS b.data.toList).1)] W fun e w' => e = .returned (.string t) ∧ Below W.heap.size W w') :
    Calls Tryd.prog 31 #[.string a, .string b] w fun e w' => e = .returned (.tuple #[.string (if bothN a b then t else ⟨#[]⟩), .bool (bothN a b)]) ∧ Below w.heap.size w w' := by
  have h := ofNumbers_max a b t w ha hb hI
  generalize (if bothN a b then t else ⟨#[]⟩) = u at *
  generalize bothN a b = p at *
  clear hI
  go_enter Tryd.func31, Tryd.ntmps31
  go_wp2_with (go_at_call 29; refine h.mono ?_; rintro e w' ⟨rfl, hb1⟩)
  exact bodyPost_ret (v := .tuple #[.string u, .bool p]) (by simp [results, Tryd.results31, go_sem]) rfl ⟨rfl, hb1⟩
theorem Greater_any (a b t : ByteArray) (w : World) (ha : a.size ≤ maxLen) (hb : b.size ≤ maxLen)
    (hI : bothN a b = true → ∀ W, Below w.heap.size w W → Calls Tryd.prog 41 #[.int .i64 (max (numS a.data.toList).1 (numS b.data.toList).1)] W fun e w' => e = .returned (.string t) ∧ Below W.heap.size W w') :
    Calls Tryd.prog 9 #[.string a, .string b] w fun e w' => e = .returned (.tuple #[.string (if bothN a b then t else ⟨#[]⟩), .bool (bothN a b)]) ∧ Below w.heap.size w w' := by
  have h : ∀ W, Below w.heap.size w W → Calls Tryd.prog 31 #[.string a, .string b] W fun e w' => e = .returned (.tuple #[.string (if bothN a b then t else ⟨#[]⟩), .bool (bothN a b)]) ∧ Below W.heap.size W w' :=
    fun W hW => results2_any a b t W ha hb (fun hp V hV => hI hp V (hW.trans (hV.mono hW.size)))
  generalize (if bothN a b then t else ⟨#[]⟩) = u at *
  generalize bothN a b = p at *
  clear hI
  have hix := table_at1
  go_enter Tryd.func9, Tryd.ntmps9
  go_wp2_with (first
    | (go_at_call 19; refine (results_any _).mono ?_; rintro e w1 ⟨rfl, hb1⟩; unfold tableV)
    | (go_at_call 31; refine (h _ hb1).mono ?_; rintro e w2 ⟨rfl, hb2⟩))
  exact bodyPost_ret (v := .tuple #[.string u, .bool p]) (by simp [results, Tryd.results9, go_sem]) rfl ⟨rfl, hb1.trans (hb2.mono hb1.size)⟩
end Go.Proofs.YtikehhcbjmcfdaaDoor
