/- Package lu: Same; Do of a host that is none. -/
import Derived.Test.YtflodljccloobaaUn5
namespace Go.Proofs.Ytflodljccloobaa
open Go.ChangeShapes Go.WideShapes Go.ChangeAt Go.RowKit Go.Lib
set_option linter.unusedVariables false
set_option linter.unusedSimpArgs false
set_option maxRecDepth 100000
namespace Un
open Rv
theorem ustr {w : World} {v : Value} {n : Nat} {l : List UInt8} (h : Sl w w.heap.size v n (bs l)) : (convert 23 9 v).run Try.prog w = .ok (.string ⟨l.toArray⟩) w :=
  bytes_str (P := Try.prog) w 23 9 5 Try.underlying23 Try.underlying5 Try.underlying9 _ _ l n h
theorem equal_any {w : World} {x y : Value} {l : List UInt8} (hx : Sl w w.heap.size x l.length (bs l)) (hy : Sl w w.heap.size y l.length (bs l)) : Calls Try.prog 14 #[x, y] w fun e w' => e = .returned (.bool true) ∧ w = w' := by
  have k1 := ustr hx
  have k2 := ustr hy
  obtain ⟨A, c, rfl, _, _⟩ := hx.form
  obtain ⟨A', c', rfl, _, _⟩ := hy.form
  clear hx hy
  go_enter Try.func14, Try.ntmps14
  go_wp2
  go_ret
  exact ⟨by simp, rfl⟩
set_option maxHeartbeats 4000000 in
theorem same_any {w : World} (s k c i : Int) (l : List UInt8) {A A' : Option Addr} {ca ca' : Nat} (h1 : Sl w w.heap.size (.slice A l.length ca) l.length (bs l)) (h2 : Sl w w.heap.size (.slice A' l.length ca') l.length (bs l)) : Calls Try.prog 10 #[.agg #[.int .i64 s, .int .i64 k, .int .i64 c, .slice A l.length ca, .int .i64 i], .agg #[.int .i64 s, .int .i64 k, .int .i64 c, .slice A' l.length ca', .int .i64 i]] w fun e w' => e = .returned (.bool true) ∧ Below w.heap.size w w' := by
  obtain ⟨w2, e2, m1, m2, b2⟩ : ∃ w2, w2 = (w.alloc (.cells #[.int .i64 s, .int .i64 k, .int .i64 c, .slice A l.length ca, .int .i64 i] 31)).alloc (.cells #[.int .i64 s, .int .i64 k, .int .i64 c, .slice A' l.length ca', .int .i64 i] 31) ∧ Mem w2 w.heap.size 31 #[.int .i64 s, .int .i64 k, .int .i64 c, .slice A l.length ca, .int .i64 i] ∧ Mem w2 (w.heap.size + 1) 31 #[.int .i64 s, .int .i64 k, .int .i64 c, .slice A' l.length ca', .int .i64 i] ∧ Below w.heap.size w w2 := ⟨_, rfl, by
    have m0 := Mem.new w 31 #[.int .i64 s, .int .i64 k, .int .i64 c, .slice A l.length ca, .int .i64 i]
    exact m0.below ((Below.refl _ _).alloc (Nat.le_refl _) _) m0.lt, by
    have m1 := Mem.new (w.alloc (.cells #[.int .i64 s, .int .i64 k, .int .i64 c, .slice A l.length ca, .int .i64 i] 31)) 31 #[.int .i64 s, .int .i64 k, .int .i64 c, .slice A' l.length ca', .int .i64 i]
    rw [World.size_alloc] at m1
    exact m1, ((Below.refl _ w).alloc (Nat.le_refl _) _).alloc (by rw [World.size_alloc]; omega) _⟩
  have cE := equal_any (h1.now b2) (h2.now b2)
  have a0 := m1.cell 0
  have a1 := m1.cell 1
  have a2 := m1.cell 2
  have a3 := m1.cell 3
  have a4 := m1.cell 4
  have d0 := m2.cell 0
  have d1 := m2.cell 1
  have d2 := m2.cell 2
  have d3 := m2.cell 3
  have d4 := m2.cell 4
  clear h1 h2
  go_enter Try.func10, Try.ntmps10
  go_upto_region 1 with (fail)
  rw [← e2]
  clear e2
  go_wp2_with (go_at_call 14; (with_reducible refine cE.mono ?_); rintro e' w3 ⟨rfl, rfl⟩)
  go_ret
  exact ⟨rfl, b2⟩
end Un
end Go.Proofs.Ytflodljccloobaa
