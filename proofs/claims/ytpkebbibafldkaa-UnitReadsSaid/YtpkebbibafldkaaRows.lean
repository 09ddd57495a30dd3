/-
  No cell of these rows narrows 'for every input' (looked for: loops, veiled, ifaces, maps, wideKeys, modest, calm, conditions, laid).
  DERIVED. THE GIVEN ROWS OF THIS SEAT. 4 by the template 'for every input the law returns true; each argument reads behind the call as it read before'; 0 by the template 'total and deterministic' (their statements: YtpkebbibafldkaaTotals.lean).
  GIVEN WITH THE SEED: the statements are not yours to turn. If you find one false, say at which input.
  Laid BY PROGRAM, IN A SANDBOX (cutbox-rows.mjs): the forced cells as the released guide's own fill.sh prints them over the translation 9666bdf2bc332628… (all of the seat's roots in one cut). By AI agents, Wed Nov 11 2026. No macro, syntax, notation, axiom, sorry.
-/
import Derived.Test.YtpkebbibafldkaaChecked
import GoSem.Claim
import GoSem.ClaimJoined
import GoSem.ClaimMapViews
import Derived.JoinedTies
import Derived.KernelRfl
namespace Go.Proofs.Ytpkebbibafldkaa
/- THE CELL 'sum', in the pinned program and in every row, IS THE sha256 OF THE DUMP (.gsa) THAT YtpkebbibafldkaaProg.lean LOADS. Nothing in Lean hashes anything: it is a label: what it is worth is what the hold of that sum in a sandbox is worth. -/
noncomputable def Try.pinned : Pinned := { name := "ytpkebbibafldkaa", sum := "9666bdf2bc332628f4c8d26f9f4c803644544d2e45868219aa1e95ac8ff3f77d", checked := Try.checked }
namespace Rows
def none {H : Type} : Left H := { results := [], args := [] }

/-- 'gemellaw17.UnitBytes': WHATEVER THE INPUT: true; the input reads as it did. -/
def unitBytesSpec : ChangeSpec := { name := "unitBytes", fn := fun _ => fun
  | [d1, d2] => { results := [.lit (.bool true)], args := [d1, d2] }
  | _ => none }
def unitBytesRow : OpenClaim := { program := "ytpkebbibafldkaa", sum := "9666bdf2bc332628f4c8d26f9f4c803644544d2e45868219aa1e95ac8ff3f77d", func := "gemel/gemellaw17.UnitBytes", spec := "unitBytes", unfollowed := true, recurses := true, apart := false }
def UnitBytesSaid : Prop := unitBytesRow.holds Try.pinned (OpenSpec.ofChange unitBytesSpec)

/-- ITS FALSE NEIGHBOUR: 'it returns false'. Refute it at one input. -/
def unitBytesWrong : ChangeSpec := { name := "unitBytes", fn := fun _ => fun
  | [d1, d2] => { results := [.lit (.bool false)], args := [d1, d2] }
  | _ => none }
def UnitBytesWrongFalsely : Prop := unitBytesRow.holds Try.pinned (OpenSpec.ofChange unitBytesWrong)

/-- 'gemellaw17.UnitAttends': WHATEVER THE INPUT: true; the input reads as it did. -/
def unitAttendsSpec : ChangeSpec := { name := "unitAttends", fn := fun _ => fun
  | [d1, d2, d3, d4] => { results := [.lit (.bool true)], args := [d1, d2, d3, d4] }
  | _ => none }
def unitAttendsRow : OpenClaim := { program := "ytpkebbibafldkaa", sum := "9666bdf2bc332628f4c8d26f9f4c803644544d2e45868219aa1e95ac8ff3f77d", func := "gemel/gemellaw17.UnitAttends", spec := "unitAttends", unfollowed := true, recurses := true, apart := false }
def UnitAttendsSaid : Prop := unitAttendsRow.holds Try.pinned (OpenSpec.ofChange unitAttendsSpec)

/-- ITS FALSE NEIGHBOUR: 'it returns false'. Refute it at one input. -/
def unitAttendsWrong : ChangeSpec := { name := "unitAttends", fn := fun _ => fun
  | [d1, d2, d3, d4] => { results := [.lit (.bool false)], args := [d1, d2, d3, d4] }
  | _ => none }
def UnitAttendsWrongFalsely : Prop := unitAttendsRow.holds Try.pinned (OpenSpec.ofChange unitAttendsWrong)

/-- 'gemellaw17.UnitReads': WHATEVER THE INPUT: true; the input reads as it did. -/
def unitReadsSpec : ChangeSpec := { name := "unitReads", fn := fun _ => fun
  | [d] => { results := [.lit (.bool true)], args := [d] }
  | _ => none }
def unitReadsRow : OpenClaim := { program := "ytpkebbibafldkaa", sum := "9666bdf2bc332628f4c8d26f9f4c803644544d2e45868219aa1e95ac8ff3f77d", func := "gemel/gemellaw17.UnitReads", spec := "unitReads", unfollowed := true, recurses := true, apart := false }
def UnitReadsSaid : Prop := unitReadsRow.holds Try.pinned (OpenSpec.ofChange unitReadsSpec)

/-- ITS FALSE NEIGHBOUR: 'it returns false'. Refute it at one input. -/
def unitReadsWrong : ChangeSpec := { name := "unitReads", fn := fun _ => fun
  | [d] => { results := [.lit (.bool false)], args := [d] }
  | _ => none }
def UnitReadsWrongFalsely : Prop := unitReadsRow.holds Try.pinned (OpenSpec.ofChange unitReadsWrong)

/-- 'gemellaw17.UnitApart': WHATEVER THE INPUT: true; the input reads as it did. -/
def unitApartSpec : ChangeSpec := { name := "unitApart", fn := fun _ => fun
  | [d1, d2, d3, d4] => { results := [.lit (.bool true)], args := [d1, d2, d3, d4] }
  | _ => none }
def unitApartRow : OpenClaim := { program := "ytpkebbibafldkaa", sum := "9666bdf2bc332628f4c8d26f9f4c803644544d2e45868219aa1e95ac8ff3f77d", func := "gemel/gemellaw17.UnitApart", spec := "unitApart", unfollowed := true, recurses := true, apart := false }
def UnitApartSaid : Prop := unitApartRow.holds Try.pinned (OpenSpec.ofChange unitApartSpec)

/-- ITS FALSE NEIGHBOUR: 'it returns false'. Refute it at one input. -/
def unitApartWrong : ChangeSpec := { name := "unitApart", fn := fun _ => fun
  | [d1, d2, d3, d4] => { results := [.lit (.bool false)], args := [d1, d2, d3, d4] }
  | _ => none }
def UnitApartWrongFalsely : Prop := unitApartRow.holds Try.pinned (OpenSpec.ofChange unitApartWrong)

/- THE SECOND FORM. 'bulk': how many values and letters a reading holds, each counted each time it is reached (what is shared counts as often as it is met; a slice's spare places count too). A statement '..UptoSaid' is the law's where the arguments, and the package variables that the reading takes, are together of bulk at most 1048576: NARROWER than '..Said'. Prove '..Said' where nothing that the law and all that it calls make is longer than what came in: it says more and counts as full. Else prove '..UptoSaid'. A law counts once. -/
mutual
def uptoBulk {H : Type} : DataW H → Nat
  | .lit (.string bytes) => bytes.length + 1
  | .lit _ => 1
  | .nil => 1
  | .ptr d => uptoBulk d + 1
  | .slice elems spare => uptoBulkAll elems + uptoBulkAll spare + 1
  | .agg parts => uptoBulkAll parts + 1
  | .iface _ d => uptoBulk d + 1
  | .map entries => uptoBulkEntries entries + 1
  | .held _ => 1
def uptoBulkAll {H : Type} : List (DataW H) → Nat
  | [] => 0
  | d :: r => uptoBulk d + uptoBulkAll r
def uptoBulkEntries {H : Type} : List (Lit × DataW H) → Nat
  | [] => 0
  | x :: r => uptoBulkEntry x + uptoBulkEntries r
def uptoBulkEntry {H : Type} : Lit × DataW H → Nat
  | (.string bytes, d) => bytes.length + uptoBulk d + 1
  | (_, d) => uptoBulk d + 1
 end
def uptoSmall : (H : Type) → List (DataW H) → Bool := fun _ ds => decide (uptoBulkAll ds ≤ 1048576)
def OpenSpec.upto (s : _root_.Go.ChangeSpec) : _root_.Go.OpenSpec := { _root_.Go.OpenSpec.ofChange s with cond := some uptoSmall }

/-- 'gemellaw17.UnitBytes', WHERE WHAT IT READS IS OF BULK AT MOST 1048576: true; the input reads as it did. -/
def unitBytesUptoRow : OpenClaim := { program := "ytpkebbibafldkaa", sum := "9666bdf2bc332628f4c8d26f9f4c803644544d2e45868219aa1e95ac8ff3f77d", func := "gemel/gemellaw17.UnitBytes", spec := "unitBytes", unfollowed := true, recurses := true, apart := false, narrowed := true }
def UnitBytesUptoSaid : Prop := unitBytesUptoRow.holds Try.pinned (OpenSpec.upto unitBytesSpec)

/-- 'gemellaw17.UnitAttends', WHERE WHAT IT READS IS OF BULK AT MOST 1048576: true; the input reads as it did. -/
def unitAttendsUptoRow : OpenClaim := { program := "ytpkebbibafldkaa", sum := "9666bdf2bc332628f4c8d26f9f4c803644544d2e45868219aa1e95ac8ff3f77d", func := "gemel/gemellaw17.UnitAttends", spec := "unitAttends", unfollowed := true, recurses := true, apart := false, narrowed := true }
def UnitAttendsUptoSaid : Prop := unitAttendsUptoRow.holds Try.pinned (OpenSpec.upto unitAttendsSpec)

/-- 'gemellaw17.UnitReads', WHERE WHAT IT READS IS OF BULK AT MOST 1048576: true; the input reads as it did. -/
def unitReadsUptoRow : OpenClaim := { program := "ytpkebbibafldkaa", sum := "9666bdf2bc332628f4c8d26f9f4c803644544d2e45868219aa1e95ac8ff3f77d", func := "gemel/gemellaw17.UnitReads", spec := "unitReads", unfollowed := true, recurses := true, apart := false, narrowed := true }
def UnitReadsUptoSaid : Prop := unitReadsUptoRow.holds Try.pinned (OpenSpec.upto unitReadsSpec)

/-- 'gemellaw17.UnitApart', WHERE WHAT IT READS IS OF BULK AT MOST 1048576: true; the input reads as it did. -/
def unitApartUptoRow : OpenClaim := { program := "ytpkebbibafldkaa", sum := "9666bdf2bc332628f4c8d26f9f4c803644544d2e45868219aa1e95ac8ff3f77d", func := "gemel/gemellaw17.UnitApart", spec := "unitApart", unfollowed := true, recurses := true, apart := false, narrowed := true }
def UnitApartUptoSaid : Prop := unitApartUptoRow.holds Try.pinned (OpenSpec.upto unitApartSpec)

end Rows
end Go.Proofs.Ytpkebbibafldkaa
