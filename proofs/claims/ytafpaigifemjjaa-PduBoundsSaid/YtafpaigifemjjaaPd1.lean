/- Package pdu: Known, word, head: contracts. -/
import Derived.Test.YtafpaigifemjjaaPdS
import Derived.Test.YtafpaigifemjjaaKeep
import Derived.Test.YtafpaigifemjjaaCalm
import Derived.Test.YtafpaigifemjjaaPadB
import Derived.Deep.DeepCutAuto
import Derived.OwnWalk
import Derived.IntWalk
import Derived.BigQuiet
import Derived.Deep.QuietTactic
namespace Go.Proofs.Ytafpaigifemjjaa
open Go.ChangeShapes Go.WideShapes Go.ChangeAt Go.RowKit
set_option linter.unusedVariables false
/-- Is a number one of the names? -/
def pknown (k : Int) : Bool :=
  if k == 0 then true else if k == 1 then true else if k == 2 then true else if k == 3 then true else if k == 5 then true else if k == 6 then true else if k == 32 then true else if k == 33 then true else if k == 34 then true else if k == 35 then true else if k == 37 then true else if k == 38 then true else if k == 49 then true else if k == 63 then true else false
theorem pknown_any (k : Int) (w : World) : Calls Try.prog 17 #[.int .i64 k] w fun e w' => e = .returned (.bool (pknown k)) ∧ w = w' := by
  obtain ⟨x, hx⟩ : ∃ x, x = pknown k := ⟨_, rfl⟩
  rw [← hx]
  unfold pknown at hx
  have HX := Lib.hid hx
  clear hx
  go_enter Try.func17, Try.ntmps17
  go_wp2
  all_goals
    have hx := HX.out
    clear HX
    repeat (first | rw [if_pos (by assumption)] at hx | rw [if_neg (by rw [Bool.not_eq_true]; assumption)] at hx)
    subst hx
    go_ret
    exact ⟨rfl, rfl⟩
theorem word_any (v : Value) (l : List UInt8) (T : Int) (t : Nat) (hT : T = t) (w : World) (hv : Sl w w.heap.size v l.length (bs l)) (hl : l.length ≤ 8796093022208) (h : t + 4 ≤ l.length) :
    Calls Try.prog 30 #[v, .int .i64 T] w fun e w' => e = .returned (.int .u32 (beVal ((l.drop t).take 4))) ∧ w = w' := by
  subst hT
  have hlt := beVal_lt' 4 ((l.drop t).take 4) (by simp; omega)
  rw [show (256 : Nat) ^ 4 = 4294967296 from rfl] at hlt
  have hg : ∀ w, Sl w w.heap.size v l.length (bs l) → Calls Try.prog 32 #[v, .int .i64 t, .int .i64 4] w fun e w' => e = .returned (.tuple #[.int .u64 (beVal ((l.drop t).take 4)), .bool true]) ∧ w = w' := fun w hv => get_b v l t 4 t 4 rfl rfl w hv (by omega) (by omega) (by omega) h
  generalize beVal ((l.drop t).take 4) = V at *
  go_enter Try.func30, Try.ntmps30
  go_wp2_with (go_at_call 32; refine (hg _ hv).mono ?_; rintro e w' ⟨rfl, rfl⟩)
  go_ret
  exact ⟨rfl, rfl⟩
/-- A PDU as a value. -/
def pduV (op : Int) (fin : Bool) (fl st : Int) (tag sn ex mx off len : Nat) (cdb : List UInt8) (d : Value) : Value :=
  .agg ([Value.int .i64 op, .bool fin, .int .i64 fl, .int .i64 st, .int .u32 tag, .int .u32 sn, .int .u32 ex, .int .u32 mx, .int .u32 off, .int .u32 len] ++ (bs cdb ++ [d])).toArray
theorem put_o (v : Value) (l : List UInt8) (X N : Int) (x n : Nat) (hX : X = x) (hN : N = n) (w : World) (hv : Sl w w.heap.size v l.length (bs l)) (hx : x < 18446744073709551616) (hl : l.length ≤ 8796093022208) (hn : 1 ≤ n ∧ n ≤ 8) :
    Calls Try.prog 28 #[v, .int .u64 X, .int .i64 N] w fun e w' => ∃ v', e = .returned v' ∧ w'.ownsRow w.heap.size 5 1 v' (l ++ be x n).length (bs (l ++ be x n)) ∧ Below w.heap.size w w' := by
  subst hX; subst hN
  refine (put_any v l x n w hv hx hl (by omega) (by omega)).mono ?_
  rintro e w' ⟨v', rfl, ho, hb⟩
  rw [putS_is l x n hn] at ho
  exact ⟨v', rfl, ho, hb⟩
theorem cdb16 (l : List UInt8) (h : l.length = 16) : ∃ c0 c1 c2 c3 c4 c5 c6 c7 c8 c9 c10 c11 c12 c13 c14 c15, l = [c0, c1, c2, c3, c4, c5, c6, c7, c8, c9, c10, c11, c12, c13, c14, c15] := by
  match l, h with
  | [c0, c1, c2, c3, c4, c5, c6, c7, c8, c9, c10, c11, c12, c13, c14, c15], _ => exact ⟨c0, c1, c2, c3, c4, c5, c6, c7, c8, c9, c10, c11, c12, c13, c14, c15, rfl⟩
end Go.Proofs.Ytafpaigifemjjaa
