/- Package mpath: In of a request turns nothing. -/
import Derived.Test.YtoogmdokcndieaaNw6
namespace Go.Proofs.Ytoogmdokcndieaa
open Go.ChangeShapes Go.WideShapes Go.ChangeAt Go.RowKit Go.Lib
set_option linter.unusedVariables false
set_option linter.unusedSimpArgs false
set_option maxRecDepth 100000
namespace Nw
section
variable {w w' : World}
set_option maxHeartbeats 4000000 in
theorem in_req (X : Nat) (fr : Int) (host id floor : Nat) (c : Cm) (d : List UInt8) (hd : d.length ≤ 100000) (v : Value) (hv : Sl w w.heap.size v (Crc.sealS (reqS host id floor c d)).length (bs (Crc.sealS (reqS host id floor c d)))) (hl : (Crc.sealS (reqS host id floor c d)).length ≤ 1000000) (hR : (reqS host id floor c d).length ≤ 1000000) : Calls Try.prog 9 #[.pointer (some ⟨X, 0, none⟩), .int .i64 fr, v] w fun e' w' => e' = .returned (.tuple #[]) ∧ Below w.heap.size w w' := by
  have d1 := answer_req host id floor c d hd v hv hl hR
  clear hv hl hR hd
  have hbox : ∀ W : World, ∃ W2, W2 = (W.alloc (.cells #[.int .i64 0, .int .i64 0, .int .i64 0, .slice none 0 0, .int .i64 0] 59)).setRow W.heap.size #[.int .i64 0, .int .i64 0, .int .i64 0, .slice none 0 0, .int .i64 0] ∧ Below W.heap.size W W2 := fun W => ⟨_, rfl, below_setRow ((Below.refl _ W).alloc (Nat.le_refl _) _) (Nat.le_refl _) _⟩
  go_enter Try.func9, Try.ntmps9
  go_wp2_with (first
    | (go_at_call 17; (with_reducible refine d1.mono ?_); rintro e' w2 ⟨rfl, b2⟩)
    | (refine wpList_store_row rfl 59 (.tmp 8) (.tmp 18) rfl w2.heap.size #[.int .i64 0, .int .i64 0, .int .i64 0, .slice none 0 0, .int .i64 0] rfl rfl 59 #[.int .i64 0, .int .i64 0, .int .i64 0, .slice none 0 0, .int .i64 0] (Mem.new w2 _ _) (by kernel_rfl) (by kernel_rfl) (by kernel_rfl) ?_; obtain ⟨w3, e3, b3⟩ := hbox w2; rw [← e3]; clear e3))
  refine bodyPost_ret (v := .tuple #[]) (by simp [results, Try.results9, go_sem]) rfl ⟨rfl, b2.trans (b3.mono b2.size)⟩
end
end Nw
end Go.Proofs.Ytoogmdokcndieaa
