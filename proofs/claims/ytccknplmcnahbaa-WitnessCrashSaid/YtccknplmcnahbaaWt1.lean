/- Package witness: registers: Right, Encode, Decode; the law's right: contracts. -/
import Derived.Test.YtccknplmcnahbaaPutB
import Derived.Test.YtccknplmcnahbaaMm
import Derived.Laws.Rows
namespace Go.Proofs.Ytccknplmcnahbaa
open Go.ChangeShapes Go.WideShapes Go.ChangeAt Go.RowKit Go.Lib
set_option linter.unusedVariables false
set_option linter.unusedSimpArgs false
set_option maxRecDepth 100000
namespace Wt
section
variable {P : Program}
theorem results_cell2 {fn : Func} {p a : Tmp} {ty : TypeId} (h : fn.results = #[.cell p ty, .tmp a]) (tmps : Array Value) (w : World) (g : Nat) (t : TypeId) (cs : Array Value) (fr : Nat × Nat) (d : TypeDesc)
    (hp : tmps.getD p undef = .pointer (some ⟨g, 0, none⟩)) (hg : w.heap[g]? = some (.cells cs t fr))
    (hu : P.underlying ty = some d) (hd : (match d with | .struct _ | .array _ _ => true | _ => false) = true) (hi : (P.info? ty).map (·.size) = some cs.size) :
    (results fn tmps).run P w = .ok (.tuple #[.agg cs, tmps.getD a undef]) w := by
  have hp' : tmps[p]?.getD undef = .pointer (some ⟨g, 0, none⟩) := by simpa using hp
  simp [results, h, hp', asAddr, run_loadVar_row w g t ty cs fr d hg hu hd hi]
end
/-- A register's cells. -/
def rgc (e : Nat) (p m : Int) : Array Value := #[.int .u64 (e : Nat), .int .i64 p, .int .i64 m]
def okR (p m : Int) : Bool := decide ((p = 0 ∧ (m = 1 ∨ m = 3)) ∨ (p = 1 ∧ (m = 2 ∨ m = 3)))
section
variable {w : World}
set_option maxHeartbeats 2000000 in
theorem lright_any (e : Nat) (p m : Int) (w : World) : Calls Try.prog 9 #[.agg #[.int .u64 (e : Nat), .int .i64 p, .int .i64 m]] w fun e' w' => e' = .returned (.bool (okR p m)) ∧ Below w.heap.size w w' := by
  have hB := (Below.refl _ w).alloc (Nat.le_refl _) (.cells #[.int .u64 (e : Nat), .int .i64 p, .int .i64 m] 24)
  by_cases p0 : p = 0
  · subst p0
    by_cases m1 : m = 1
    · subst m1
      rw [show okR 0 1 = true from rfl]
      go_enter Try.func9, Try.ntmps9
      go_wp2
      go_ret
      exact ⟨rfl, hB⟩
    · by_cases m3 : m = 3
      · subst m3
        rw [show okR 0 3 = true from rfl]
        clear m1
        go_enter Try.func9, Try.ntmps9
        go_wp2
        go_ret
        exact ⟨rfl, hB⟩
      · have b1 : (m == 1) = false := beq_eq_false_iff_ne.2 m1
        have b3 : (m == 3) = false := beq_eq_false_iff_ne.2 m3
        rw [show okR 0 m = false from decide_eq_false (by omega)]
        go_enter Try.func9, Try.ntmps9
        go_wp2
        go_ret
        exact ⟨rfl, hB⟩
  · have c0 : (p == 0) = false := beq_eq_false_iff_ne.2 p0
    by_cases p1 : p = 1
    · subst p1
      clear p0 c0
      by_cases m1 : m = 2
      · subst m1
        rw [show okR 1 2 = true from rfl]
        go_enter Try.func9, Try.ntmps9
        go_wp2
        go_ret
        exact ⟨rfl, hB⟩
      · by_cases m3 : m = 3
        · subst m3
          rw [show okR 1 3 = true from rfl]
          clear m1
          go_enter Try.func9, Try.ntmps9
          go_wp2
          go_ret
          exact ⟨rfl, hB⟩
        · have b1 : (m == 2) = false := beq_eq_false_iff_ne.2 m1
          have b3 : (m == 3) = false := beq_eq_false_iff_ne.2 m3
          rw [show okR 1 m = false from decide_eq_false (by omega)]
          go_enter Try.func9, Try.ntmps9
          go_wp2
          go_ret
          exact ⟨rfl, hB⟩
    · have c1 : (p == 1) = false := beq_eq_false_iff_ne.2 p1
      rw [show okR p m = false from decide_eq_false (by omega)]
      go_enter Try.func9, Try.ntmps9
      go_wp2
      go_ret
      exact ⟨rfl, hB⟩
set_option maxHeartbeats 2000000 in
theorem right_any (e : Nat) (p m : Int) (w : World) : Calls Try.prog 18 #[.agg #[.int .u64 (e : Nat), .int .i64 p, .int .i64 m]] w fun e' w' => e' = .returned (.bool (okR p m)) ∧ Below w.heap.size w w' := by
  have hB := (Below.refl _ w).alloc (Nat.le_refl _) (.cells #[.int .u64 (e : Nat), .int .i64 p, .int .i64 m] 24)
  by_cases h1 : m < 1
  · rw [show okR p m = false from decide_eq_false (by omega)]
    go_enter Try.func18, Try.ntmps18
    go_wp2
    go_ret
    exact ⟨rfl, hB⟩
  by_cases h3 : 3 < m
  · rw [show okR p m = false from decide_eq_false (by omega)]
    go_enter Try.func18, Try.ntmps18
    go_wp2
    go_ret
    exact ⟨rfl, hB⟩
  by_cases p0 : p = 0
  · subst p0
    have hm : m = 1 ∨ m = 2 ∨ m = 3 := by omega
    clear h1 h3
    rcases hm with rfl | rfl | rfl
    · rw [show okR 0 1 = true from rfl]
      go_enter Try.func18, Try.ntmps18
      go_wp2
      go_ret
      exact ⟨rfl, hB⟩
    · rw [show okR 0 2 = false from rfl]
      go_enter Try.func18, Try.ntmps18
      go_wp2
      go_ret
      exact ⟨rfl, hB⟩
    · rw [show okR 0 3 = true from rfl]
      go_enter Try.func18, Try.ntmps18
      go_wp2
      go_ret
      exact ⟨rfl, hB⟩
  have c0 : (p == 0) = false := beq_eq_false_iff_ne.2 p0
  by_cases p1 : p = 1
  · subst p1
    have hm : m = 1 ∨ m = 2 ∨ m = 3 := by omega
    clear h1 h3 p0 c0
    rcases hm with rfl | rfl | rfl
    · rw [show okR 1 1 = false from rfl]
      go_enter Try.func18, Try.ntmps18
      go_wp2
      go_ret
      exact ⟨rfl, hB⟩
    · rw [show okR 1 2 = true from rfl]
      go_enter Try.func18, Try.ntmps18
      go_wp2
      go_ret
      exact ⟨rfl, hB⟩
    · rw [show okR 1 3 = true from rfl]
      go_enter Try.func18, Try.ntmps18
      go_wp2
      go_ret
      exact ⟨rfl, hB⟩
  · have c1 : (p == 1) = false := beq_eq_false_iff_ne.2 p1
    rw [show okR p m = false from decide_eq_false (by omega)]
    go_enter Try.func18, Try.ntmps18
    go_wp2
    go_ret
    exact ⟨rfl, hB⟩
end
end Wt
end Go.Proofs.Ytccknplmcnahbaa
