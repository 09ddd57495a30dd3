/- Package space: Read, Write, Unmap: contracts. -/
import Derived.Test.YtflodljccloobaaMm
import Derived.Test.YtflodljccloobaaSp1
import Derived.Lib.SliceRun
import Derived.Laws.CopyRow
namespace Go.Proofs.Ytflodljccloobaa
open Go.ChangeShapes Go.WideShapes Go.ChangeAt Go.RowKit Go.Lib
set_option linter.unusedVariables false
set_option linter.unusedSimpArgs false
section
variable {P : Program} {w : World} {ops : Array Oper} {rest : List Oper} {o : Oper} {a : Act} {Q : Exit → Act → World → Prop}
end
theorem zero_u8 (w : World) : (zeroValue 5).run Try.prog w = .ok (.int .u8 0) w := by kernel_rfl
/-- The bytes with a piece laid anew. -/
def laid (D : List UInt8) (a : Nat) (l : List UInt8) : List UInt8 := splice D (a * 8) l
theorem laid_len {D l : List UInt8} {a : Nat} (h : a * 8 + l.length ≤ D.length) : (laid D a l).length = D.length := length_splice _ _ _ h
theorem bs_splice (D l : List UInt8) (off : Nat) : splice (bs D) off (bs l) = bs (splice D off l) := by simp [splice, bs, List.map_take, List.map_drop]
theorem laid_get {D l : List UInt8} {a : Nat} (h : a * 8 + l.length ≤ D.length) (j : Nat) : (laid D a l)[j]? = if a * 8 ≤ j ∧ j < a * 8 + l.length then l[j - a * 8]? else D[j]? := by
  unfold laid splice
  rw [List.getElem?_append]
  rw [List.length_take, Nat.min_eq_left (by omega)]
  by_cases h1 : j < a * 8
  · rw [if_pos h1, if_neg (by omega), List.getElem?_take, if_pos h1]
  · rw [if_neg h1, List.getElem?_append]
    by_cases h2 : j - a * 8 < l.length
    · rw [if_pos h2, if_pos (by omega)]
    · rw [if_neg h2, if_neg (by omega), List.getElem?_drop]
      congr 1
      omega
section
variable {w : World} {B X g h N : Nat} {D M : List UInt8}
/-- The map with a run set, or unset. -/
def runTo (M : List UInt8) (a n : Nat) (set : Bool) (M' : List UInt8) : Prop := M'.length = M.length ∧ ∀ j, bit M' j = if a ≤ j ∧ j < a + n then set else bit M j
theorem far_turn (v : Value) (M : List UInt8) (F N : Nat) (set : Bool) (w : World) (hl : M.length ≤ 1000000) (hd : Sl w w.heap.size v M.length (bs M)) (hF : 8 * M.length ≤ F) : Calls Try.prog 64 #[v, .int .i64 (F : Nat), .int .i64 (N : Nat), .bool set] w fun e w' => e = .returned (.int .i64 0) ∧ w = w' := by
  have hsz := size_any v M w hl hd
  have hFx : ((8 * M.length : Nat) : Int) ≤ (F : Int) := by omega
  go_enter Try.func64, Try.ntmps64
  go_wp2_with (go_at_call 66; (with_reducible refine hsz.mono ?_); rintro e w1 ⟨rfl, rfl⟩)
  go_ret
  exact ⟨rfl, rfl⟩
theorem runTo_none (M : List UInt8) (a : Nat) (set : Bool) : runTo M a 0 set M := ⟨rfl, fun j => by rw [if_neg (by omega)]⟩
theorem mapset_any (a n : Nat) (hn : SpInv w B X g h N D M) (ha : a + n ≤ N) : Calls Try.prog 53 #[.slice (some ⟨h, 0, none⟩) M.length M.length, .int .i64 (a : Nat), .int .i64 (n : Nat)] w fun e w' => ∃ k M', e = .returned (.int .i64 k) ∧ runTo M a n true M' ∧ Mem w' h 5 (bs M').toArray ∧ Keeps h w w' := by
  have hl := hn.lens
  by_cases hF : 8 * M.length ≤ a
  · have ht := far_turn _ M a n true w (by omega) hn.slM hF
    have hl3 := Lib.hid hl.2.2
    go_enter Try.func53, Try.ntmps53
    go_wp2_with (go_at_call 64; (with_reducible refine ht.mono ?_); rintro e w1 ⟨rfl, rfl⟩)
    go_ret
    exact ⟨0, M, rfl, (show n = 0 by have := hl3.out; omega) ▸ runTo_none _ _ _, hn.map, Keeps.refl _ _⟩
  · refine (setk_any B h M.length M a n w w (by omega) (Nat.le_trans hn.bh (Nat.le_of_lt hn.map.lt)) (by omega) (by omega) (own_mem hn.map hn.bh rfl (by unfold maxLen; omega)) hn.bh (Below.refl _ _)).mono ?_
    rintro e w' ⟨rfl, M', h1, h2, h3, h4, h5⟩
    refine ⟨_, M', rfl, ⟨h1, h2⟩, ?_, h5⟩
    exact row_of_own (n := M.length) h3 rfl
theorem mapunset_any (a n : Nat) (hn : SpInv w B X g h N D M) (ha : a + n ≤ N) : Calls Try.prog 54 #[.slice (some ⟨h, 0, none⟩) M.length M.length, .int .i64 (a : Nat), .int .i64 (n : Nat)] w fun e w' => ∃ k M', e = .returned (.int .i64 k) ∧ runTo M a n false M' ∧ Mem w' h 5 (bs M').toArray ∧ Keeps h w w' := by
  have hl := hn.lens
  by_cases hF : 8 * M.length ≤ a
  · have ht := far_turn _ M a n false w (by omega) hn.slM hF
    have hl3 := Lib.hid hl.2.2
    go_enter Try.func54, Try.ntmps54
    go_wp2_with (go_at_call 64; (with_reducible refine ht.mono ?_); rintro e w1 ⟨rfl, rfl⟩)
    go_ret
    exact ⟨0, M, rfl, (show n = 0 by have := hl3.out; omega) ▸ runTo_none _ _ _, hn.map, Keeps.refl _ _⟩
  · refine (unsetk_any B h M.length M a n w w (by omega) (Nat.le_trans hn.bh (Nat.le_of_lt hn.map.lt)) (by omega) (by omega) (own_mem hn.map hn.bh rfl (by unfold maxLen; omega)) hn.bh (Below.refl _ _)).mono ?_
    rintro e w' ⟨rfl, M', h1, h2, h3, h4, h5⟩
    refine ⟨_, M', rfl, ⟨h1, h2⟩, ?_, h5⟩
    exact row_of_own (n := M.length) h3 rfl
end
end Go.Proofs.Ytflodljccloobaa
