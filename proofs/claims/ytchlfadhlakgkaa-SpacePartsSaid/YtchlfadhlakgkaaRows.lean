/-
  No cell of these rows narrows 'for every input' (looked for: loops, veiled, ifaces, maps, wideKeys, modest, calm, conditions, laid).
  DERIVED. THE GIVEN ROWS OF THIS SEAT. 4 by the template 'for every input the law returns true; each argument reads behind the call as it read before'; 0 by the template 'total and deterministic' (their statements: YtchlfadhlakgkaaTotals.lean).
  GIVEN WITH THE SEED: the statements are not yours to turn. If you find one false, say at which input.
  Laid BY PROGRAM, IN A SANDBOX (cutbox-rows.mjs): the forced cells as the released guide's own fill.sh prints them over the translation c6545b8c249b7f0a… (all of the seat's roots in one cut). By AI agents, Wed Nov 11 2026. No macro, syntax, notation, axiom, sorry.
-/
import Derived.Test.YtchlfadhlakgkaaChecked
import GoSem.Claim
import GoSem.ClaimJoined
import GoSem.ClaimMapViews
import Derived.JoinedTies
import Derived.KernelRfl
namespace Go.Proofs.Ytchlfadhlakgkaa
/- THE CELL 'sum', in the pinned program and in every row, IS THE sha256 OF THE DUMP (.gsa) THAT YtchlfadhlakgkaaProg.lean LOADS. Nothing in Lean hashes anything: it is a label: what it is worth is what the hold of that sum in a sandbox is worth. -/
noncomputable def Try.pinned : Pinned := { name := "ytchlfadhlakgkaa", sum := "c6545b8c249b7f0a3c0a3b7d1fbac565ee9d4f35a88cab63e606310b8d451c6c", checked := Try.checked }
namespace Rows
def none {H : Type} : Left H := { results := [], args := [] }

/-- 'gemellaw14.SpaceOnce': WHATEVER THE INPUT: true; the input reads as it did. -/
def spaceOnceSpec : ChangeSpec := { name := "spaceOnce", fn := fun _ => fun
  | [d1, d2, d3, d4] => { results := [.lit (.bool true)], args := [d1, d2, d3, d4] }
  | _ => none }
def spaceOnceRow : OpenClaim := { program := "ytchlfadhlakgkaa", sum := "c6545b8c249b7f0a3c0a3b7d1fbac565ee9d4f35a88cab63e606310b8d451c6c", func := "gemel/gemellaw14.SpaceOnce", spec := "spaceOnce", apart := false }
def SpaceOnceSaid : Prop := spaceOnceRow.holds Try.pinned (OpenSpec.ofChange spaceOnceSpec)

/-- ITS FALSE NEIGHBOUR: 'it returns false'. Refute it at one input. -/
def spaceOnceWrong : ChangeSpec := { name := "spaceOnce", fn := fun _ => fun
  | [d1, d2, d3, d4] => { results := [.lit (.bool false)], args := [d1, d2, d3, d4] }
  | _ => none }
def SpaceOnceWrongFalsely : Prop := spaceOnceRow.holds Try.pinned (OpenSpec.ofChange spaceOnceWrong)

/-- 'gemellaw14.SpaceZero': WHATEVER THE INPUT: true; the input reads as it did. -/
def spaceZeroSpec : ChangeSpec := { name := "spaceZero", fn := fun _ => fun
  | [d1, d2, d3] => { results := [.lit (.bool true)], args := [d1, d2, d3] }
  | _ => none }
def spaceZeroRow : OpenClaim := { program := "ytchlfadhlakgkaa", sum := "c6545b8c249b7f0a3c0a3b7d1fbac565ee9d4f35a88cab63e606310b8d451c6c", func := "gemel/gemellaw14.SpaceZero", spec := "spaceZero", apart := false }
def SpaceZeroSaid : Prop := spaceZeroRow.holds Try.pinned (OpenSpec.ofChange spaceZeroSpec)

/-- ITS FALSE NEIGHBOUR: 'it returns false'. Refute it at one input. -/
def spaceZeroWrong : ChangeSpec := { name := "spaceZero", fn := fun _ => fun
  | [d1, d2, d3] => { results := [.lit (.bool false)], args := [d1, d2, d3] }
  | _ => none }
def SpaceZeroWrongFalsely : Prop := spaceZeroRow.holds Try.pinned (OpenSpec.ofChange spaceZeroWrong)

/-- 'gemellaw14.SpaceParts': WHATEVER THE INPUT: true; the input reads as it did. -/
def spacePartsSpec : ChangeSpec := { name := "spaceParts", fn := fun _ => fun
  | [d1, d2, d3] => { results := [.lit (.bool true)], args := [d1, d2, d3] }
  | _ => none }
def spacePartsRow : OpenClaim := { program := "ytchlfadhlakgkaa", sum := "c6545b8c249b7f0a3c0a3b7d1fbac565ee9d4f35a88cab63e606310b8d451c6c", func := "gemel/gemellaw14.SpaceParts", spec := "spaceParts", apart := false }
def SpacePartsSaid : Prop := spacePartsRow.holds Try.pinned (OpenSpec.ofChange spacePartsSpec)

/-- ITS FALSE NEIGHBOUR: 'it returns false'. Refute it at one input. -/
def spacePartsWrong : ChangeSpec := { name := "spaceParts", fn := fun _ => fun
  | [d1, d2, d3] => { results := [.lit (.bool false)], args := [d1, d2, d3] }
  | _ => none }
def SpacePartsWrongFalsely : Prop := spacePartsRow.holds Try.pinned (OpenSpec.ofChange spacePartsWrong)

/-- 'gemellaw14.SpaceSwaps': WHATEVER THE INPUT: true; the input reads as it did. -/
def spaceSwapsSpec : ChangeSpec := { name := "spaceSwaps", fn := fun _ => fun
  | [d] => { results := [.lit (.bool true)], args := [d] }
  | _ => none }
def spaceSwapsRow : OpenClaim := { program := "ytchlfadhlakgkaa", sum := "c6545b8c249b7f0a3c0a3b7d1fbac565ee9d4f35a88cab63e606310b8d451c6c", func := "gemel/gemellaw14.SpaceSwaps", spec := "spaceSwaps", apart := false }
def SpaceSwapsSaid : Prop := spaceSwapsRow.holds Try.pinned (OpenSpec.ofChange spaceSwapsSpec)

/-- ITS FALSE NEIGHBOUR: 'it returns false'. Refute it at one input. -/
def spaceSwapsWrong : ChangeSpec := { name := "spaceSwaps", fn := fun _ => fun
  | [d] => { results := [.lit (.bool false)], args := [d] }
  | _ => none }
def SpaceSwapsWrongFalsely : Prop := spaceSwapsRow.holds Try.pinned (OpenSpec.ofChange spaceSwapsWrong)

/- THE SECOND FORM. 'bulk': how many values and letters a reading holds, each counted each time it is reached (what is shared counts as often as it is met; a slice's spare places count too). A statement '..UptoSaid' is the law's where the arguments, and the package variables that the reading takes, are together of bulk at most 1048576: NARROWER than '..Said'. Prove '..Said' where nothing that the law and all that it calls make is longer than what came in: it says more and counts as full. Else prove '..UptoSaid'. A law counts once. -/
mutual
def uptoBulk {H : Type} : DataW H → Nat
  | .lit (.string bytes) => bytes.length + 1
  | .lit _ => 1
  | .nil => 1
  | .ptr d => uptoBulk d + 1
  | .slice elems spare => uptoBulkAll elems + uptoBulkAll spare + 1
  | .agg parts => uptoBulkAll parts + 1
  | .iface _ d => uptoBulk d + 1
  | .map entries => uptoBulkEntries entries + 1
  | .held _ => 1
def uptoBulkAll {H : Type} : List (DataW H) → Nat
  | [] => 0
  | d :: r => uptoBulk d + uptoBulkAll r
def uptoBulkEntries {H : Type} : List (Lit × DataW H) → Nat
  | [] => 0
  | x :: r => uptoBulkEntry x + uptoBulkEntries r
def uptoBulkEntry {H : Type} : Lit × DataW H → Nat
  | (.string bytes, d) => bytes.length + uptoBulk d + 1
  | (_, d) => uptoBulk d + 1
 end
def uptoSmall : (H : Type) → List (DataW H) → Bool := fun _ ds => decide (uptoBulkAll ds ≤ 1048576)
def OpenSpec.upto (s : _root_.Go.ChangeSpec) : _root_.Go.OpenSpec := { _root_.Go.OpenSpec.ofChange s with cond := some uptoSmall }

/-- 'gemellaw14.SpaceOnce', WHERE WHAT IT READS IS OF BULK AT MOST 1048576: true; the input reads as it did. -/
def spaceOnceUptoRow : OpenClaim := { program := "ytchlfadhlakgkaa", sum := "c6545b8c249b7f0a3c0a3b7d1fbac565ee9d4f35a88cab63e606310b8d451c6c", func := "gemel/gemellaw14.SpaceOnce", spec := "spaceOnce", apart := false, narrowed := true }
def SpaceOnceUptoSaid : Prop := spaceOnceUptoRow.holds Try.pinned (OpenSpec.upto spaceOnceSpec)

/-- 'gemellaw14.SpaceZero', WHERE WHAT IT READS IS OF BULK AT MOST 1048576: true; the input reads as it did. -/
def spaceZeroUptoRow : OpenClaim := { program := "ytchlfadhlakgkaa", sum := "c6545b8c249b7f0a3c0a3b7d1fbac565ee9d4f35a88cab63e606310b8d451c6c", func := "gemel/gemellaw14.SpaceZero", spec := "spaceZero", apart := false, narrowed := true }
def SpaceZeroUptoSaid : Prop := spaceZeroUptoRow.holds Try.pinned (OpenSpec.upto spaceZeroSpec)

/-- 'gemellaw14.SpaceParts', WHERE WHAT IT READS IS OF BULK AT MOST 1048576: true; the input reads as it did. -/
def spacePartsUptoRow : OpenClaim := { program := "ytchlfadhlakgkaa", sum := "c6545b8c249b7f0a3c0a3b7d1fbac565ee9d4f35a88cab63e606310b8d451c6c", func := "gemel/gemellaw14.SpaceParts", spec := "spaceParts", apart := false, narrowed := true }
def SpacePartsUptoSaid : Prop := spacePartsUptoRow.holds Try.pinned (OpenSpec.upto spacePartsSpec)

/-- 'gemellaw14.SpaceSwaps', WHERE WHAT IT READS IS OF BULK AT MOST 1048576: true; the input reads as it did. -/
def spaceSwapsUptoRow : OpenClaim := { program := "ytchlfadhlakgkaa", sum := "c6545b8c249b7f0a3c0a3b7d1fbac565ee9d4f35a88cab63e606310b8d451c6c", func := "gemel/gemellaw14.SpaceSwaps", spec := "spaceSwaps", apart := false, narrowed := true }
def SpaceSwapsUptoSaid : Prop := spaceSwapsUptoRow.holds Try.pinned (OpenSpec.upto spaceSwapsSpec)

end Rows
end Go.Proofs.Ytchlfadhlakgkaa
