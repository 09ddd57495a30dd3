/- Package node, wire: Answer of a request is none. -/
import Derived.Test.YtoogmdokcndieaaNw5
namespace Go.Proofs.Ytoogmdokcndieaa
open Go.ChangeShapes Go.WideShapes Go.ChangeAt Go.RowKit Go.Lib
set_option linter.unusedVariables false
set_option linter.unusedSimpArgs false
set_option maxRecDepth 100000
namespace Nw
section
variable {P : Program}
theorem results_cell6 {fn : Func} {x y p a b c : Tmp} {ty : TypeId} (h : fn.results = #[.tmp x, .tmp y, .cell p ty, .tmp a, .tmp b, .tmp c]) (tmps : Array Value) (w : World) (g : Nat) (t : TypeId) (cs : Array Value) (fr : Nat × Nat) (d : TypeDesc)
    (hp : tmps.getD p undef = .pointer (some ⟨g, 0, none⟩)) (hg : w.heap[g]? = some (.cells cs t fr))
    (hu : P.underlying ty = some d) (hd : (match d with | .struct _ | .array _ _ => true | _ => false) = true) (hi : (P.info? ty).map (·.size) = some cs.size) :
    (results fn tmps).run P w = .ok (.tuple #[tmps.getD x undef, tmps.getD y undef, .agg cs, tmps.getD a undef, tmps.getD b undef, tmps.getD c undef]) w := by
  have hp' : tmps[p]?.getD undef = .pointer (some ⟨g, 0, none⟩) := by simpa using hp
  simp [results, h, hp', asAddr, run_loadVar_row w g t ty cs fr d hg hu hd hi]
end
section
variable {w w' : World}
set_option maxHeartbeats 4000000 in
theorem answer_req (host id floor : Nat) (c : Cm) (d : List UInt8) (hd : d.length ≤ 100000) (v : Value) (hv : Sl w w.heap.size v (Crc.sealS (reqS host id floor c d)).length (bs (Crc.sealS (reqS host id floor c d)))) (hl : (Crc.sealS (reqS host id floor c d)).length ≤ 1000000) (hR : (reqS host id floor c d).length ≤ 1000000) : Calls Try.prog 17 #[v] w fun e' w' => e' = .returned (.tuple #[.int .i64 0, .int .u64 0, .agg #[.int .i64 0, .int .i64 0, .int .i64 0, .slice none 0 0, .int .i64 0], .bool false, .int .i64 0, .bool false]) ∧ Below w.heap.size w w' := by
  obtain ⟨w1, e1, hm1, b1⟩ : ∃ w1, w1 = w.alloc (.cells #[.int .i64 0, .int .i64 0, .int .i64 0, .slice none 0 0, .int .i64 0] 59) ∧ Mem w1 w.heap.size 59 #[.int .i64 0, .int .i64 0, .int .i64 0, .slice none 0 0, .int .i64 0] ∧ Below w.heap.size w w1 := ⟨_, rfl, Mem.new w _ _, (Below.refl _ w).alloc (Nat.le_refl _) _⟩
  have d1 := wopen_req host id floor c d hd v ((hv.below b1).more b1.size) hl hR
  clear hv hl hR hd
  go_enter Try.func17, Try.ntmps17
  go_upto_region 1 with (fail)
  rw [← e1]
  clear e1
  go_wp2_with (first
    | (go_at_call 27; (with_reducible refine d1.mono ?_); rintro e' w2 ⟨X, rfl, b2⟩; have m2 := hm1.below b2 hm1.lt)
    | (refine wpList_store_row rfl 59 (.tmp 4) (.tmp 22) rfl w.heap.size #[.int .i64 0, .int .i64 0, .int .i64 0, .slice none 0 0, .int .i64 0] rfl rfl 59 #[.int .i64 0, .int .i64 0, .int .i64 0, .slice none 0 0, .int .i64 0] m2 (by kernel_rfl) (by kernel_rfl) (by kernel_rfl) ?_))
  have B2 := b1.trans (b2.mono b1.size)
  have m3 := m2.row #[.int .i64 0, .int .i64 0, .int .i64 0, .slice none 0 0, .int .i64 0]
  have B3 : Below w.heap.size w (w2.setRow w.heap.size #[.int .i64 0, .int .i64 0, .int .i64 0, .slice none 0 0, .int .i64 0]) := below_setRow B2 (Nat.le_refl _) _
  generalize w2.setRow w.heap.size #[.int .i64 0, .int .i64 0, .int .i64 0, .slice none 0 0, .int .i64 0] = w3 at *
  refine bodyPost_ret (v := .tuple #[.int .i64 0, .int .u64 0, .agg #[.int .i64 0, .int .i64 0, .int .i64 0, .slice none 0 0, .int .i64 0], .bool false, .int .i64 0, .bool false]) ?_ rfl ⟨rfl, B3⟩
  exact (results_cell6 (x := 2) (y := 3) (p := 4) (a := 5) (b := 6) (c := 7) (ty := 59) rfl _ _ w.heap.size 59 #[.int .i64 0, .int .i64 0, .int .i64 0, .slice none 0 0, .int .i64 0] (0, 0) _ rfl m3 Try.underlying59 rfl (by kernel_rfl)).trans rfl
end
end Nw
end Go.Proofs.Ytoogmdokcndieaa
