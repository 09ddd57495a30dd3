/- Package node, wire: order and Request. -/
import Derived.Test.YtoogmdokcndieaaNw2
namespace Go.Proofs.Ytoogmdokcndieaa
open Go.ChangeShapes Go.WideShapes Go.ChangeAt Go.RowKit Go.Lib
set_option linter.unusedVariables false
set_option linter.unusedSimpArgs false
set_option maxRecDepth 100000
namespace Nw
/-- A number of int as one of uint64. -/
def tw (a : Int) : Nat := (a % 18446744073709551616).toNat
/-- A command's numbers. -/
structure Cm where
  kind : Int
  at' : Int
  n : Int
  key : Nat
  new : Nat
  typ : Int
  force : Bool
def Cm.row (c : Cm) (v : Value) : Array Value := #[.int .i64 c.kind, .int .i64 c.at', .int .i64 c.n, v, .int .u64 (c.key : Nat), .int .u64 (c.new : Nat), .int .i64 c.typ, .bool c.force]
def orderS (host : Nat) (id floor : Nat) (c : Cm) (d : List UInt8) : List UInt8 :=
  ([host, id, floor].flatMap fun n => be n 8) ++ ([tw c.kind, tw c.at', tw c.n, tw c.typ, c.key, c.new].flatMap fun n => be n 8) ++ be (if c.force then 1 else 0) 1 ++ be d.length 4 ++ d
section
variable {o w w' : World} {X : Nat} {l : List UInt8}
theorem tw_lt (a : Int) : tw a < 18446744073709551616 := by unfold tw; omega
theorem tw_wrap (a : Int) : IntKind.u64.wrap a = ((tw a : Nat) : Int) := by
  unfold tw
  rw [Int.toNat_of_nonneg (Int.emod_nonneg _ (by decide))]
  rfl
theorem flat_len (ns : List Nat) : (ns.flatMap fun n => be n 8).length = 8 * ns.length := by
  induction ns with
  | nil => rfl
  | cons a q ih => simp only [List.flatMap_cons, List.length_append, be_len, ih, List.length_cons]; omega
theorem long_new (h : Wr o w X l) (ns : List Nat) (hn : ∀ n ∈ ns, n < 18446744073709551616) (hns : ns.length ≤ 100) (hl : l.length ≤ 900000) : Calls Try.prog 37 #[.pointer (some ⟨X, 0, none⟩), .slice (some ⟨w.heap.size, 0, none⟩) ns.length ns.length] (w.alloc (.cells (ns.map fun n : Nat => Value.int .u64 (n : Nat)).toArray 29)) fun e' w' => e' = .returned (.tuple #[]) ∧ Wr o w' X (l ++ ns.flatMap fun n => be n 8) ∧ FrW w w' := by
  have hb : Below w.heap.size w (w.alloc (.cells (ns.map fun n : Nat => Value.int .u64 (n : Nat)).toArray 29)) := (Below.refl _ w).alloc (Nat.le_refl _) _
  refine (long_any (h.below hb) w.heap.size ns (Mem.new w _ _) hn hns hl).mono ?_
  rintro e' w' ⟨q1, q2, q3⟩
  exact ⟨q1, q2, (FrW.of hb).trans q3⟩
def ordV (host id floor : Nat) (c : Cm) (v : Value) : Array Value := #[.int .i64 (host : Nat), .int .u64 (id : Nat), .int .u64 (floor : Nat), .int .i64 c.kind, .int .i64 c.at', .int .i64 c.n, v, .int .u64 (c.key : Nat), .int .u64 (c.new : Nat), .int .i64 c.typ, .bool c.force]
structure CmOk (c : Cm) : Prop where
  key : c.key < 18446744073709551616
  new : c.new < 18446744073709551616
set_option maxHeartbeats 4000000 in
theorem order_any (h : Wr o w X l) (hl : l.length ≤ 100000) (host : Nat) (id floor : Nat) (hh : host ≤ 1000) (hid : id < 18446744073709551616) (hfl : floor < 18446744073709551616) (c : Cm) (hc : CmOk c) (v : Value) (d : List UInt8) (hv : Sl o o.heap.size v d.length (bs d)) (hd : d.length ≤ 100000) : Calls Try.prog 24 #[.pointer (some ⟨X, 0, none⟩), .agg #[.int .i64 (host : Nat), .int .u64 (id : Nat), .int .u64 (floor : Nat), .int .i64 c.kind, .int .i64 c.at', .int .i64 c.n, v, .int .u64 (c.key : Nat), .int .u64 (c.new : Nat), .int .i64 c.typ, .bool c.force]] w fun e' w' => e' = .returned (.tuple #[]) ∧ Wr o w' X (l ++ orderS host id floor c d) ∧ FrW w w' := by
  obtain ⟨w1, e1, hm1, hw1, f1⟩ : ∃ w1, w1 = w.alloc (.cells #[.int .i64 (host : Nat), .int .u64 (id : Nat), .int .u64 (floor : Nat), .int .i64 c.kind, .int .i64 c.at', .int .i64 c.n, v, .int .u64 (c.key : Nat), .int .u64 (c.new : Nat), .int .i64 c.typ, .bool c.force] 77) ∧ Mem w1 w.heap.size 77 #[.int .i64 (host : Nat), .int .u64 (id : Nat), .int .u64 (floor : Nat), .int .i64 c.kind, .int .i64 c.at', .int .i64 c.n, v, .int .u64 (c.key : Nat), .int .u64 (c.new : Nat), .int .i64 c.typ, .bool c.force] ∧ Wr o w1 X l ∧ FrW w w1 := by
    have hb : Below w.heap.size w (w.alloc (.cells #[.int .i64 (host : Nat), .int .u64 (id : Nat), .int .u64 (floor : Nat), .int .i64 c.kind, .int .i64 c.at', .int .i64 c.n, v, .int .u64 (c.key : Nat), .int .u64 (c.new : Nat), .int .i64 c.typ, .bool c.force] 77)) := (Below.refl _ w).alloc (Nat.le_refl _) _
    exact ⟨_, rfl, Mem.new w _ _, h.below hb, FrW.of hb⟩
  have d1 : Calls Try.prog 37 #[.pointer (some ⟨X, 0, none⟩), .slice (some ⟨w1.heap.size, 0, none⟩) 3 3] (w1.alloc (.cells #[.int .u64 (host : Nat), .int .u64 (id : Nat), .int .u64 (floor : Nat)] 29)) fun e' w' => e' = .returned (.tuple #[]) ∧ Wr o w' X (l ++ [host, id, floor].flatMap fun n => be n 8) ∧ FrW w1 w' := long_new hw1 [host, id, floor] (by simp; omega) (by simp) (by omega)
  have d2 : ∀ W l', Wr o W X l' → l'.length ≤ 200000 → Calls Try.prog 37 #[.pointer (some ⟨X, 0, none⟩), .slice (some ⟨W.heap.size, 0, none⟩) 6 6] (W.alloc (.cells #[.int .u64 (tw c.kind : Nat), .int .u64 (tw c.at' : Nat), .int .u64 (tw c.n : Nat), .int .u64 (tw c.typ : Nat), .int .u64 (c.key : Nat), .int .u64 (c.new : Nat)] 29)) fun e' w' => e' = .returned (.tuple #[]) ∧ Wr o w' X (l' ++ [tw c.kind, tw c.at', tw c.n, tw c.typ, c.key, c.new].flatMap fun n => be n 8) ∧ FrW W w' := fun W l' hW hl' => long_new hW [tw c.kind, tw c.at', tw c.n, tw c.typ, c.key, c.new] (by
    have := hc.key; have := hc.new; have := tw_lt c.kind; have := tw_lt c.at'; have := tw_lt c.n; have := tw_lt c.typ
    simp; omega) (by simp) (by omega)
  have L1 : (l ++ [host, id, floor].flatMap fun n => be n 8).length ≤ 150000 := by rw [List.length_append, flat_len]; simp; omega
  have L2 : (l ++ ([host, id, floor].flatMap fun n => be n 8) ++ [tw c.kind, tw c.at', tw c.n, tw c.typ, c.key, c.new].flatMap fun n => be n 8).length ≤ 200000 := by rw [List.length_append, flat_len]; simp only [List.length_cons, List.length_nil]; omega
  have L3 : (l ++ ([host, id, floor].flatMap fun n => be n 8) ++ ([tw c.kind, tw c.at', tw c.n, tw c.typ, c.key, c.new].flatMap fun n => be n 8) ++ be (if c.force then 1 else 0) 1).length ≤ 300000 := by rw [List.length_append, be_len]; omega
  have q1 := tw_wrap c.kind
  have q2 := tw_wrap c.at'
  have q3 := tw_wrap c.n
  have q4 := tw_wrap c.typ
  have hhx : (host : Int) ≤ 1000 := by omega
  unfold orderS
  generalize hA : l ++ ([host, id, floor].flatMap fun n => be n 8) = A at *
  generalize hB : A ++ ([tw c.kind, tw c.at', tw c.n, tw c.typ, c.key, c.new].flatMap fun n => be n 8) = B at *
  have hgoal : l ++ (([host, id, floor].flatMap fun n => be n 8) ++ ([tw c.kind, tw c.at', tw c.n, tw c.typ, c.key, c.new].flatMap fun n => be n 8) ++ be (if c.force then 1 else 0) 1 ++ be d.length 4 ++ d) = B ++ be (if c.force then 1 else 0) 1 ++ be d.length 4 ++ d := by rw [← hB, ← hA]; simp only [List.append_assoc]
  rw [hgoal]
  clear hgoal
  have d3' : ∀ W, Wr o W X B → Calls Try.prog 38 #[.pointer (some ⟨X, 0, none⟩), .bool c.force] W fun e' w' => e' = .returned (.tuple #[]) ∧ Wr o w' X (B ++ be (if c.force then 1 else 0) 1) ∧ FrW W w' := fun W hW => flag_any hW c.force (by omega)
  have d4' : ∀ W, Wr o W X (B ++ be (if c.force then 1 else 0) 1) → Calls Try.prog 39 #[.pointer (some ⟨X, 0, none⟩), v] W fun e' w' => e' = .returned (.tuple #[]) ∧ Wr o w' X (B ++ be (if c.force then 1 else 0) 1 ++ be d.length 4 ++ d) ∧ FrW W w' := fun W hW => row_any hW v d hv (by omega) (by omega)
  generalize B ++ be (if c.force then 1 else 0) 1 ++ be d.length 4 ++ d = E at *
  generalize B ++ be (if c.force then 1 else 0) 1 = G at *
  have d2' := fun W (hW : Wr o W X A) => d2 W A hW (by omega)
  simp only [hB] at d2'
  clear hA hB d2 h hid hfl hc
  go_enter Try.func24, Try.ntmps24
  go_upto_region 1 with (fail)
  rw [← e1]
  clear e1
  have k0 := hm1.cell 0
  have k1 := hm1.cell 1
  have k2 := hm1.cell 2
  go_wp2_with (first
    | (go_at_call 37; (with_reducible refine d1.mono ?_); rintro e' w2 ⟨rfl, h2, f2⟩; have m2 := f2.mem hm1 (by decide) (by decide); have k3 := m2.cell 3; have k4 := m2.cell 4; have k5 := m2.cell 5; have k7 := m2.cell 7; have k8 := m2.cell 8; have k9 := m2.cell 9; have d2w := d2' _ h2)
    | (go_at_call 37; (with_reducible refine d2w.mono ?_); rintro e' w3 ⟨rfl, h3, f3⟩; have m3 := f3.mem m2 (by decide) (by decide); have k10 := m3.cell 10; have d3 := d3' _ h3)
    | (go_at_call 38; (with_reducible refine d3.mono ?_); rintro e' w4 ⟨rfl, h4, f4⟩; have m4 := f4.mem m3 (by decide) (by decide); have k6 := m4.cell 6; have d4 := d4' _ h4)
    | (go_at_call 39; (with_reducible refine d4.mono ?_); rintro e' w5 ⟨rfl, h5, f5⟩))
  exact bodyPost_end (v := .tuple #[]) (by simp [results, Try.results24, go_sem]) rfl ⟨rfl, h5, f1.trans (f2.trans (f3.trans (f4.trans f5)))⟩
end
end Nw
end Go.Proofs.Ytoogmdokcndieaa
