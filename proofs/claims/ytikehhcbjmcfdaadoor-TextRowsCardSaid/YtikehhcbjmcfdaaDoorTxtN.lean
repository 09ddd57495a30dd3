/- Package text: Number, Bool, Name: contracts. -/
import Derived.Test.YtikehhcbjmcfdaaDoorTxt
import Derived.Test.YtikehhcbjmcfdaaDoorShelf
namespace Go.Proofs.YtikehhcbjmcfdaaDoor
open Go.ChangeShapes Go.WideShapes Go.ChangeAt Go.RowKit
set_option linter.unusedVariables false

/-- What Number tells. -/
def numS (l : List UInt8) : Int × Bool :=
  if Lib.hasPrefix l [48, 120] = true then numR 16 7 (Lib.trimPrefix l [48, 120]) else if (1 < (l.length : Int)) ∧ l.head? = some 48 then (0, false) else numR 10 9 l
theorem trim_len (l p : List UInt8) : (Lib.trimPrefix l p).length ≤ l.length := by
  unfold Lib.trimPrefix
  split <;> simp
theorem ret_ns {l : List UInt8} {v : Int} {t : Bool} (h : numS l = (v, t)) : Ending.returned (.tuple #[.int .i64 v, .bool t]) = .returned (.tuple #[.int .i64 (numS l).1, .bool (numS l).2]) := by rw [h]
theorem head_of (s : ByteArray) (h : 0 < s.size) : s.data.toList.head? = some s[0] := by
  rw [List.head?_eq_getElem?, List.getElem?_eq_getElem (by simpa using h)]; rfl
theorem is48 {c : UInt8} (h : ((c.toNat : Int) == 48) = true) : c = 48 := by
  have h' : (c.toNat : Int) = 48 := by simpa using h
  exact UInt8.toNat_inj.1 (by show c.toNat = 48; omega)
set_option maxHeartbeats 1000000 in
theorem Number_any (s : ByteArray) (w : World) (hs : s.size ≤ maxLen) :
    Calls Tryd.prog 10 #[.string s] w fun e w' => e = .returned (.tuple #[.int .i64 (numS s.data.toList).1, .bool (numS s.data.toList).2]) ∧ w = w' := by
  have hsz : s.data.toList.length = s.size := by simp
  go_enter Tryd.func10, Tryd.ntmps10
  go_wp2_with (first
    | (go_at_call 20; refine (Go.Proofs.Tryd.strings_CutPrefix _ _ _).mono ?_; rintro e w' ⟨rfl, rfl⟩)
    | (go_at_call 21; refine (number_any _ _ _ _ (by omega) (by first | exact hs | (have := trim_len s.data.toList [48, 120]; rw [hsz] at this; exact Nat.le_trans this hs))).mono ?_; rintro e w' ⟨rfl, rfl⟩))
  · have hp : Lib.hasPrefix s.data.toList [48, 120] = true := by assumption
    exact bodyPost_ret (v := .tuple #[.int .i64 (numR 16 7 (Lib.trimPrefix s.data.toList [48, 120])).1, .bool (numR 16 7 (Lib.trimPrefix s.data.toList [48, 120])).2]) (by simp [results, Tryd.results10, go_sem]) rfl ⟨ret_ns (by unfold numS; rw [if_pos hp]), rfl⟩
  · rename_i hp _ _ h1 h2 h3
    have hq : 1 < (s.data.toList.length : Int) ∧ s.data.toList.head? = some 48 := ⟨by rw [hsz]; exact h1, (head_of s h2).trans (congrArg some (is48 h3))⟩
    exact bodyPost_ret (v := .tuple #[.int .i64 0, .bool false]) (by simp [results, Tryd.results10, go_sem]) rfl ⟨ret_ns (by unfold numS; rw [if_neg (by rw [hp]; simp), if_pos hq]), rfl⟩
  · rename_i hp h1 h2 h3
    have hq : ¬ (1 < (s.data.toList.length : Int) ∧ s.data.toList.head? = some 48) := by
      rintro ⟨_, h⟩
      rw [head_of s h2] at h
      rw [Option.some.inj h] at h3
      simp at h3
    exact bodyPost_ret (v := .tuple #[.int .i64 (numR 10 9 s.data.toList).1, .bool (numR 10 9 s.data.toList).2]) (by simp [results, Tryd.results10, go_sem]) rfl ⟨ret_ns (by unfold numS; rw [if_neg (by rw [hp]; simp), if_neg hq]), rfl⟩
  · rename_i hp h1
    have hq : ¬ (1 < (s.data.toList.length : Int) ∧ s.data.toList.head? = some 48) := by
      rintro ⟨h, _⟩
      rw [hsz] at h
      omega
    exact bodyPost_ret (v := .tuple #[.int .i64 (numR 10 9 s.data.toList).1, .bool (numR 10 9 s.data.toList).2]) (by simp [results, Tryd.results10, go_sem]) rfl ⟨ret_ns (by unfold numS; rw [if_neg (by rw [hp]; simp), if_neg hq]), rfl⟩
end Go.Proofs.YtikehhcbjmcfdaaDoor
