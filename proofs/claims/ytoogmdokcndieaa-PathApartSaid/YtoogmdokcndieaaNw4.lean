/- Package node, wire: Request; the reader's number and open. -/
import Derived.Test.YtoogmdokcndieaaNw3
namespace Go.Proofs.Ytoogmdokcndieaa
open Go.ChangeShapes Go.WideShapes Go.ChangeAt Go.RowKit Go.Lib
set_option linter.unusedVariables false
set_option linter.unusedSimpArgs false
set_option maxRecDepth 100000
namespace Nw
def reqS (host id floor : Nat) (c : Cm) (d : List UInt8) : List UInt8 := be 18253 2 ++ be 1 1 ++ orderS host id floor c d
theorem orderS_len (host id floor : Nat) (c : Cm) (d : List UInt8) : (orderS host id floor c d).length = 77 + d.length := by
  unfold orderS
  simp only [List.length_append, flat_len, be_len, List.length_cons, List.length_nil]
section
variable {w w' : World} {X : Nat} {l : List UInt8}
set_option maxHeartbeats 4000000 in
theorem request_any (host id floor : Nat) (hh : host ≤ 1000) (hid : id < 18446744073709551616) (hfl : floor < 18446744073709551616) (c : Cm) (hc : CmOk c) (v : Value) (d : List UInt8) (hv : Sl w w.heap.size v d.length (bs d)) (hd : d.length ≤ 100000) : Calls Try.prog 14 #[.int .i64 (host : Nat), .int .u64 (id : Nat), .int .u64 (floor : Nat), .agg #[.int .i64 c.kind, .int .i64 c.at', .int .i64 c.n, v, .int .u64 (c.key : Nat), .int .u64 (c.new : Nat), .int .i64 c.typ, .bool c.force]] w fun e' w' => ∃ v', e' = .returned v' ∧ w'.ownsRow w.heap.size 5 1 v' (Crc.sealS (reqS host id floor c d)).length (bs (Crc.sealS (reqS host id floor c d))) ∧ Below w.heap.size w w' := by
  obtain ⟨w1, e1, hm1, b1⟩ : ∃ w1, w1 = w.alloc (.cells #[.int .i64 c.kind, .int .i64 c.at', .int .i64 c.n, v, .int .u64 (c.key : Nat), .int .u64 (c.new : Nat), .int .i64 c.typ, .bool c.force] 31) ∧ Mem w1 w.heap.size 31 #[.int .i64 c.kind, .int .i64 c.at', .int .i64 c.n, v, .int .u64 (c.key : Nat), .int .u64 (c.new : Nat), .int .i64 c.typ, .bool c.force] ∧ Below w.heap.size w w1 := ⟨_, rfl, Mem.new w _ _, (Below.refl _ w).alloc (Nat.le_refl _) _⟩
  have d1 : Calls Try.prog 23 #[.int .i64 1] w1 fun e' w' => e' = .returned (.pointer (some ⟨w1.heap.size, 0, none⟩)) ∧ Wr w w' w1.heap.size (be 18253 2 ++ be 1 1) ∧ FrW w1 w' := begin_any b1 1 (by decide)
  have d2 : ∀ W, Wr w W w1.heap.size (be 18253 2 ++ be 1 1) → Calls Try.prog 24 #[.pointer (some ⟨w1.heap.size, 0, none⟩), .agg #[.int .i64 (host : Nat), .int .u64 (id : Nat), .int .u64 (floor : Nat), .int .i64 c.kind, .int .i64 c.at', .int .i64 c.n, v, .int .u64 (c.key : Nat), .int .u64 (c.new : Nat), .int .i64 c.typ, .bool c.force]] W fun e' w' => e' = .returned (.tuple #[]) ∧ Wr w w' w1.heap.size (reqS host id floor c d) ∧ FrW W w' := fun W hW => order_any hW (by simp) host id floor hh hid hfl c hc v d hv hd
  have hlen : (reqS host id floor c d).length ≤ 1000000 := by
    unfold reqS
    rw [List.length_append, List.length_append, be_len, be_len, orderS_len]; omega
  generalize reqS host id floor c d = R at *
  generalize be 18253 2 ++ be 1 1 = R0 at *
  have hhx : (host : Int) ≤ 1000 := by omega
  clear hid hfl hc
  go_enter Try.func14, Try.ntmps14
  go_upto_region 1 with (fail)
  rw [← e1]
  clear e1
  go_wp2_with (first
    | (go_at_call 23; (with_reducible refine d1.mono ?_); rintro e' w2 ⟨rfl, h2, f2⟩; have m2 := f2.mem hm1 (by decide) (by decide))
    | (refine wpList_load_row rfl 31 (.tmp 7) rfl w.heap.size rfl 31 #[.int .i64 c.kind, .int .i64 c.at', .int .i64 c.n, v, .int .u64 (c.key : Nat), .int .u64 (c.new : Nat), .int .i64 c.typ, .bool c.force] (0, 0) _ m2 Try.underlying31 rfl (by kernel_rfl) ?_)
    | (go_at_call 24; (with_reducible refine (d2 _ h2).mono ?_); rintro e' w3 ⟨rfl, h3, f3⟩; have d3 := wseal_any h3 hlen)
    | (go_at_call 25; (with_reducible refine d3.mono ?_); rintro e' w4 ⟨v4, rfl, h4, b4⟩))
  go_ret
  exact ⟨_, rfl, owns_mono h4 h3.bl.size, h3.bl.trans (b4.mono h3.bl.size)⟩
end
end Nw
end Go.Proofs.Ytoogmdokcndieaa
