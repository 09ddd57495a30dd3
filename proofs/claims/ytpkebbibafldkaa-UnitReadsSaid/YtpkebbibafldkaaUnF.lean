/- Package lu: Same; Do of a host that is none. -/
import Derived.Test.YtpkebbibafldkaaUnE
namespace Go.Proofs.Ytpkebbibafldkaa
open Go.ChangeShapes Go.WideShapes Go.ChangeAt Go.RowKit Go.Lib
set_option linter.unusedVariables false
set_option linter.unusedSimpArgs false
set_option maxRecDepth 100000
namespace Un
open Rv
theorem ustr {w : World} {v : Value} {n : Nat} {l : List UInt8} (h : Sl w w.heap.size v n (bs l)) : (convert 22 9 v).run Try.prog w = .ok (.string ⟨l.toArray⟩) w :=
  bytes_str (P := Try.prog) w 22 9 5 Try.underlying22 Try.underlying5 Try.underlying9 _ _ l n h
theorem equal_any {w : World} {x y : Value} {l : List UInt8} (hx : Sl w w.heap.size x l.length (bs l)) (hy : Sl w w.heap.size y l.length (bs l)) : Calls Try.prog 44 #[x, y] w fun e w' => e = .returned (.bool true) ∧ w = w' := by
  have k1 := ustr hx
  have k2 := ustr hy
  obtain ⟨A, c, rfl, _, _⟩ := hx.form
  obtain ⟨A', c', rfl, _, _⟩ := hy.form
  clear hx hy
  go_enter Try.func44, Try.ntmps44
  go_wp2
  go_ret
  exact ⟨by simp, rfl⟩
set_option maxHeartbeats 4000000 in
theorem same_any {w : World} (s k c i : Int) (l : List UInt8) {A A' : Option Addr} {ca ca' : Nat} (h1 : Sl w w.heap.size (.slice A l.length ca) l.length (bs l)) (h2 : Sl w w.heap.size (.slice A' l.length ca') l.length (bs l)) : Calls Try.prog 17 #[.agg #[.int .i64 s, .int .i64 k, .int .i64 c, .slice A l.length ca, .int .i64 i], .agg #[.int .i64 s, .int .i64 k, .int .i64 c, .slice A' l.length ca', .int .i64 i]] w fun e w' => e = .returned (.bool true) ∧ Below w.heap.size w w' := by
  obtain ⟨w2, e2, m1, m2, b2⟩ : ∃ w2, w2 = (w.alloc (.cells #[.int .i64 s, .int .i64 k, .int .i64 c, .slice A l.length ca, .int .i64 i] 36)).alloc (.cells #[.int .i64 s, .int .i64 k, .int .i64 c, .slice A' l.length ca', .int .i64 i] 36) ∧ Mem w2 w.heap.size 36 #[.int .i64 s, .int .i64 k, .int .i64 c, .slice A l.length ca, .int .i64 i] ∧ Mem w2 (w.heap.size + 1) 36 #[.int .i64 s, .int .i64 k, .int .i64 c, .slice A' l.length ca', .int .i64 i] ∧ Below w.heap.size w w2 := ⟨_, rfl, by
    have m0 := Mem.new w 36 #[.int .i64 s, .int .i64 k, .int .i64 c, .slice A l.length ca, .int .i64 i]
    exact m0.below ((Below.refl _ _).alloc (Nat.le_refl _) _) m0.lt, by
    have m1 := Mem.new (w.alloc (.cells #[.int .i64 s, .int .i64 k, .int .i64 c, .slice A l.length ca, .int .i64 i] 36)) 36 #[.int .i64 s, .int .i64 k, .int .i64 c, .slice A' l.length ca', .int .i64 i]
    rw [World.size_alloc] at m1
    exact m1, ((Below.refl _ w).alloc (Nat.le_refl _) _).alloc (by rw [World.size_alloc]; omega) _⟩
  have cE := equal_any (h1.now b2) (h2.now b2)
  have a0 := m1.cell 0
  have a1 := m1.cell 1
  have a2 := m1.cell 2
  have a3 := m1.cell 3
  have a4 := m1.cell 4
  have d0 := m2.cell 0
  have d1 := m2.cell 1
  have d2 := m2.cell 2
  have d3 := m2.cell 3
  have d4 := m2.cell 4
  clear h1 h2
  go_enter Try.func17, Try.ntmps17
  go_upto_region 1 with (fail)
  rw [← e2]
  clear e2
  go_wp2_with (go_at_call 44; (with_reducible refine cE.mono ?_); rintro e' w3 ⟨rfl, rfl⟩)
  go_ret
  exact ⟨rfl, b2⟩
set_option maxHeartbeats 4000000 in
theorem do_nobody {w : World} (Z : Nat) (a n ck cn ct kd : Int) (v : Value) (hv : v.oneCell' = true) (cf : Bool) : Calls Try.prog 10 #[.pointer (some ⟨Z, 0, none⟩), .int .i64 9, .agg #[.int .i64 kd, .int .i64 a, .int .i64 n, v, .int .u64 ck, .int .u64 cn, .int .i64 ct, .bool cf]] w fun e w' => e = .returned (.agg #[.int .i64 2, .int .i64 5, .int .i64 8192, .slice none 0 0, .int .i64 0]) ∧ Below w.heap.size w w' := by
  obtain ⟨w2, e2, mr, b2⟩ : ∃ w2, w2 = (w.alloc (.cells #[.int .i64 kd, .int .i64 a, .int .i64 n, v, .int .u64 ck, .int .u64 cn, .int .i64 ct, .bool cf] 25)).alloc (.cells #[.int .i64 0, .int .i64 0, .int .i64 0, .slice none 0 0, .int .i64 0] 36) ∧ Mem w2 (w.heap.size + 1) 36 #[.int .i64 0, .int .i64 0, .int .i64 0, .slice none 0 0, .int .i64 0] ∧ Below w.heap.size w w2 := ⟨_, rfl, by
    have m1 := Mem.new (w.alloc (.cells #[.int .i64 kd, .int .i64 a, .int .i64 n, v, .int .u64 ck, .int .u64 cn, .int .i64 ct, .bool cf] 25)) 36 #[.int .i64 0, .int .i64 0, .int .i64 0, .slice none 0 0, .int .i64 0]
    rw [World.size_alloc] at m1
    exact m1, ((Below.refl _ w).alloc (Nat.le_refl _) _).alloc (by rw [World.size_alloc]; omega) _⟩
  have cH : ∀ W, Calls Try.prog 22 #[.int .i64 9] W fun e w' => e = .returned (.bool false) ∧ W = w' := fun W => isHost_any 9 W
  have cI : ∀ W, Calls Try.prog 24 #[.int .i64 8192] W fun e w' => e = .returned (.agg #[.int .i64 2, .int .i64 5, .int .i64 8192, .slice none 0 0, .int .i64 0]) ∧ Below W.heap.size W w' := fun W => illegal_any 8192 W
  go_enter Try.func10, Try.ntmps10
  go_upto_region 1 with (fail)
  rw [← e2]
  clear e2
  go_wp2_with (first
    | (go_at_call 22; (with_reducible refine (cH _).mono ?_); rintro e' w3 ⟨rfl, rfl⟩)
    | (go_at_call 24; (with_reducible refine (cI _).mono ?_); rintro e' w4 ⟨rfl, b4⟩; have mr4 := mr.below b4 mr.lt)
    | (refine wpList_store_row rfl 36 (.tmp 6) (.tmp 23) rfl (w.heap.size + 1) #[.int .i64 2, .int .i64 5, .int .i64 8192, .slice none 0 0, .int .i64 0] rfl rfl 36 #[.int .i64 0, .int .i64 0, .int .i64 0, .slice none 0 0, .int .i64 0] mr4 (by kernel_rfl) (by kernel_rfl) (by kernel_rfl) ?_))
  exact bodyPost_ret ((results_cell1 (p := 6) (ty := 36) rfl _ _ (w.heap.size + 1) 36 _ (0, 0) _ rfl (mr4.row #[.int .i64 2, .int .i64 5, .int .i64 8192, .slice none 0 0, .int .i64 0]) Try.underlying36 rfl (by kernel_rfl)).trans rfl) rfl ⟨rfl, below_setRow (b2.trans (b4.mono b2.size)) (by omega) _⟩
end Un
end Go.Proofs.Ytpkebbibafldkaa
