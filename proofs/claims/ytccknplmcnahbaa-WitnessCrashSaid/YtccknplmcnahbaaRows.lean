/-
  No cell of these rows narrows 'for every input' (looked for: loops, veiled, ifaces, maps, wideKeys, modest, calm, conditions, laid).
  DERIVED. THE GIVEN ROWS OF THIS SEAT. 3 by the template 'for every input the law returns true; each argument reads behind the call as it read before'; 0 by the template 'total and deterministic' (their statements: YtccknplmcnahbaaTotals.lean).
  GIVEN WITH THE SEED: the statements are not yours to turn. If you find one false, say at which input.
  Laid BY PROGRAM, IN A SANDBOX (cutbox-rows.mjs): the forced cells as the released guide's own fill.sh prints them over the translation ce502da329575af0… (all of the seat's roots in one cut). By AI agents, Wed Nov 11 2026. No macro, syntax, notation, axiom, sorry.
-/
import Derived.Test.YtccknplmcnahbaaChecked
import GoSem.Claim
import GoSem.ClaimJoined
import GoSem.ClaimMapViews
import Derived.JoinedTies
import Derived.KernelRfl
namespace Go.Proofs.Ytccknplmcnahbaa
/- THE CELL 'sum', in the pinned program and in every row, IS THE sha256 OF THE DUMP (.gsa) THAT YtccknplmcnahbaaProg.lean LOADS. Nothing in Lean hashes anything: it is a label: what it is worth is what the hold of that sum in a sandbox is worth. -/
noncomputable def Try.pinned : Pinned := { name := "ytccknplmcnahbaa", sum := "ce502da329575af0a250b9d7cc494a02b1b9469b486deb1d0fac5a5d7fe7e903", checked := Try.checked }
namespace Rows
def none {H : Type} : Left H := { results := [], args := [] }

/-- 'gemellaw23.WitnessBytes': WHATEVER THE INPUT: true; the input reads as it did. -/
def witnessBytesSpec : ChangeSpec := { name := "witnessBytes", fn := fun _ => fun
  | [d1, d2] => { results := [.lit (.bool true)], args := [d1, d2] }
  | _ => none }
def witnessBytesRow : OpenClaim := { program := "ytccknplmcnahbaa", sum := "ce502da329575af0a250b9d7cc494a02b1b9469b486deb1d0fac5a5d7fe7e903", func := "gemel/gemellaw23.WitnessBytes", spec := "witnessBytes", recurses := true, apart := false }
def WitnessBytesSaid : Prop := witnessBytesRow.holds Try.pinned (OpenSpec.ofChange witnessBytesSpec)

/-- ITS FALSE NEIGHBOUR: 'it returns false'. Refute it at one input. -/
def witnessBytesWrong : ChangeSpec := { name := "witnessBytes", fn := fun _ => fun
  | [d1, d2] => { results := [.lit (.bool false)], args := [d1, d2] }
  | _ => none }
def WitnessBytesWrongFalsely : Prop := witnessBytesRow.holds Try.pinned (OpenSpec.ofChange witnessBytesWrong)

/-- 'gemellaw23.WitnessCrash': WHATEVER THE INPUT: true; the input reads as it did. -/
def witnessCrashSpec : ChangeSpec := { name := "witnessCrash", fn := fun _ => fun
  | [d1, d2, d3] => { results := [.lit (.bool true)], args := [d1, d2, d3] }
  | _ => none }
def witnessCrashRow : OpenClaim := { program := "ytccknplmcnahbaa", sum := "ce502da329575af0a250b9d7cc494a02b1b9469b486deb1d0fac5a5d7fe7e903", func := "gemel/gemellaw23.WitnessCrash", spec := "witnessCrash", recurses := true, apart := false }
def WitnessCrashSaid : Prop := witnessCrashRow.holds Try.pinned (OpenSpec.ofChange witnessCrashSpec)

/-- ITS FALSE NEIGHBOUR: 'it returns false'. Refute it at one input. -/
def witnessCrashWrong : ChangeSpec := { name := "witnessCrash", fn := fun _ => fun
  | [d1, d2, d3] => { results := [.lit (.bool false)], args := [d1, d2, d3] }
  | _ => none }
def WitnessCrashWrongFalsely : Prop := witnessCrashRow.holds Try.pinned (OpenSpec.ofChange witnessCrashWrong)

/-- 'gemellaw23.WitnessRaces': WHATEVER THE INPUT: true; the input reads as it did. -/
def witnessRacesSpec : ChangeSpec := { name := "witnessRaces", fn := fun _ => fun
  | [d] => { results := [.lit (.bool true)], args := [d] }
  | _ => none }
def witnessRacesRow : OpenClaim := { program := "ytccknplmcnahbaa", sum := "ce502da329575af0a250b9d7cc494a02b1b9469b486deb1d0fac5a5d7fe7e903", func := "gemel/gemellaw23.WitnessRaces", spec := "witnessRaces", recurses := true, apart := false }
def WitnessRacesSaid : Prop := witnessRacesRow.holds Try.pinned (OpenSpec.ofChange witnessRacesSpec)

/-- ITS FALSE NEIGHBOUR: 'it returns false'. Refute it at one input. -/
def witnessRacesWrong : ChangeSpec := { name := "witnessRaces", fn := fun _ => fun
  | [d] => { results := [.lit (.bool false)], args := [d] }
  | _ => none }
def WitnessRacesWrongFalsely : Prop := witnessRacesRow.holds Try.pinned (OpenSpec.ofChange witnessRacesWrong)

/- THE SECOND FORM. 'bulk': how many values and letters a reading holds, each counted each time it is reached (what is shared counts as often as it is met; a slice's spare places count too). A statement '..UptoSaid' is the law's where the arguments, and the package variables that the reading takes, are together of bulk at most 1048576: NARROWER than '..Said'. Prove '..Said' where nothing that the law and all that it calls make is longer than what came in: it says more and counts as full. Else prove '..UptoSaid'. A law counts once. -/
mutual
def uptoBulk {H : Type} : DataW H → Nat
  | .lit (.string bytes) => bytes.length + 1
  | .lit _ => 1
  | .nil => 1
  | .ptr d => uptoBulk d + 1
  | .slice elems spare => uptoBulkAll elems + uptoBulkAll spare + 1
  | .agg parts => uptoBulkAll parts + 1
  | .iface _ d => uptoBulk d + 1
  | .map entries => uptoBulkEntries entries + 1
  | .held _ => 1
def uptoBulkAll {H : Type} : List (DataW H) → Nat
  | [] => 0
  | d :: r => uptoBulk d + uptoBulkAll r
def uptoBulkEntries {H : Type} : List (Lit × DataW H) → Nat
  | [] => 0
  | x :: r => uptoBulkEntry x + uptoBulkEntries r
def uptoBulkEntry {H : Type} : Lit × DataW H → Nat
  | (.string bytes, d) => bytes.length + uptoBulk d + 1
  | (_, d) => uptoBulk d + 1
 end
def uptoSmall : (H : Type) → List (DataW H) → Bool := fun _ ds => decide (uptoBulkAll ds ≤ 1048576)
def OpenSpec.upto (s : _root_.Go.ChangeSpec) : _root_.Go.OpenSpec := { _root_.Go.OpenSpec.ofChange s with cond := some uptoSmall }

/-- 'gemellaw23.WitnessBytes', WHERE WHAT IT READS IS OF BULK AT MOST 1048576: true; the input reads as it did. -/
def witnessBytesUptoRow : OpenClaim := { program := "ytccknplmcnahbaa", sum := "ce502da329575af0a250b9d7cc494a02b1b9469b486deb1d0fac5a5d7fe7e903", func := "gemel/gemellaw23.WitnessBytes", spec := "witnessBytes", recurses := true, apart := false, narrowed := true }
def WitnessBytesUptoSaid : Prop := witnessBytesUptoRow.holds Try.pinned (OpenSpec.upto witnessBytesSpec)

/-- 'gemellaw23.WitnessCrash', WHERE WHAT IT READS IS OF BULK AT MOST 1048576: true; the input reads as it did. -/
def witnessCrashUptoRow : OpenClaim := { program := "ytccknplmcnahbaa", sum := "ce502da329575af0a250b9d7cc494a02b1b9469b486deb1d0fac5a5d7fe7e903", func := "gemel/gemellaw23.WitnessCrash", spec := "witnessCrash", recurses := true, apart := false, narrowed := true }
def WitnessCrashUptoSaid : Prop := witnessCrashUptoRow.holds Try.pinned (OpenSpec.upto witnessCrashSpec)

/-- 'gemellaw23.WitnessRaces', WHERE WHAT IT READS IS OF BULK AT MOST 1048576: true; the input reads as it did. -/
def witnessRacesUptoRow : OpenClaim := { program := "ytccknplmcnahbaa", sum := "ce502da329575af0a250b9d7cc494a02b1b9469b486deb1d0fac5a5d7fe7e903", func := "gemel/gemellaw23.WitnessRaces", spec := "witnessRaces", recurses := true, apart := false, narrowed := true }
def WitnessRacesUptoSaid : Prop := witnessRacesUptoRow.holds Try.pinned (OpenSpec.upto witnessRacesSpec)

end Rows
end Go.Proofs.Ytccknplmcnahbaa
