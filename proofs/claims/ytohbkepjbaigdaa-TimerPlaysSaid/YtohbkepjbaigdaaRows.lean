/-
  No cell of these rows narrows 'for every input' (looked for: loops, veiled, ifaces, maps, wideKeys, modest, calm, conditions, laid).
  DERIVED. THE GIVEN ROWS OF THIS SEAT. 5 by the template 'for every input the law returns true; each argument reads behind the call as it read before'; 0 by the template 'total and deterministic' (their statements: YtohbkepjbaigdaaTotals.lean).
  GIVEN WITH THE SEED: the statements are not yours to turn. If you find one false, say at which input.
  Laid BY PROGRAM, IN A SANDBOX (cutbox-rows.mjs): the forced cells as the released guide's own fill.sh prints them over the translation 7da214c3f07a4a49… (all of the seat's roots in one cut). By AI agents, Wed Nov 11 2026. No macro, syntax, notation, axiom, sorry.
-/
import Derived.Test.YtohbkepjbaigdaaChecked
import GoSem.Claim
import GoSem.ClaimJoined
import GoSem.ClaimMapViews
import Derived.JoinedTies
import Derived.KernelRfl
namespace Go.Proofs.Ytohbkepjbaigdaa
/- THE CELL 'sum', in the pinned program and in every row, IS THE sha256 OF THE DUMP (.gsa) THAT YtohbkepjbaigdaaProg.lean LOADS. Nothing in Lean hashes anything: it is a label: what it is worth is what the hold of that sum in a sandbox is worth. -/
noncomputable def Try.pinned : Pinned := { name := "ytohbkepjbaigdaa", sum := "7da214c3f07a4a498bfbb57e1ae4df6e3193eaf18c647ba8729d634149412701", checked := Try.checked }
namespace Rows
def none {H : Type} : Left H := { results := [], args := [] }

/-- 'gemellaw10.TimerPlays': WHATEVER THE INPUT: true; the input reads as it did. -/
def timerPlaysSpec : ChangeSpec := { name := "timerPlays", fn := fun _ => fun
  | [d] => { results := [.lit (.bool true)], args := [d] }
  | _ => none }
def timerPlaysRow : OpenClaim := { program := "ytohbkepjbaigdaa", sum := "7da214c3f07a4a498bfbb57e1ae4df6e3193eaf18c647ba8729d634149412701", func := "gemel/gemellaw10.TimerPlays", spec := "timerPlays", unfollowed := true, recurses := true, apart := false }
def TimerPlaysSaid : Prop := timerPlaysRow.holds Try.pinned (OpenSpec.ofChange timerPlaysSpec)

/-- ITS FALSE NEIGHBOUR: 'it returns false'. Refute it at one input. -/
def timerPlaysWrong : ChangeSpec := { name := "timerPlays", fn := fun _ => fun
  | [d] => { results := [.lit (.bool false)], args := [d] }
  | _ => none }
def TimerPlaysWrongFalsely : Prop := timerPlaysRow.holds Try.pinned (OpenSpec.ofChange timerPlaysWrong)

/-- 'gemellaw10.TimerOrder': WHATEVER THE INPUT: true; the input reads as it did. -/
def timerOrderSpec : ChangeSpec := { name := "timerOrder", fn := fun _ => fun
  | [d] => { results := [.lit (.bool true)], args := [d] }
  | _ => none }
def timerOrderRow : OpenClaim := { program := "ytohbkepjbaigdaa", sum := "7da214c3f07a4a498bfbb57e1ae4df6e3193eaf18c647ba8729d634149412701", func := "gemel/gemellaw10.TimerOrder", spec := "timerOrder", unfollowed := true, recurses := true, apart := false }
def TimerOrderSaid : Prop := timerOrderRow.holds Try.pinned (OpenSpec.ofChange timerOrderSpec)

/-- ITS FALSE NEIGHBOUR: 'it returns false'. Refute it at one input. -/
def timerOrderWrong : ChangeSpec := { name := "timerOrder", fn := fun _ => fun
  | [d] => { results := [.lit (.bool false)], args := [d] }
  | _ => none }
def TimerOrderWrongFalsely : Prop := timerOrderRow.holds Try.pinned (OpenSpec.ofChange timerOrderWrong)

/-- 'gemellaw10.TimerFull': WHATEVER THE INPUT: true; the input reads as it did. -/
def timerFullSpec : ChangeSpec := { name := "timerFull", fn := fun _ => fun
  | [d1, d2] => { results := [.lit (.bool true)], args := [d1, d2] }
  | _ => none }
def timerFullRow : OpenClaim := { program := "ytohbkepjbaigdaa", sum := "7da214c3f07a4a498bfbb57e1ae4df6e3193eaf18c647ba8729d634149412701", func := "gemel/gemellaw10.TimerFull", spec := "timerFull", unfollowed := true, recurses := true, apart := false }
def TimerFullSaid : Prop := timerFullRow.holds Try.pinned (OpenSpec.ofChange timerFullSpec)

/-- ITS FALSE NEIGHBOUR: 'it returns false'. Refute it at one input. -/
def timerFullWrong : ChangeSpec := { name := "timerFull", fn := fun _ => fun
  | [d1, d2] => { results := [.lit (.bool false)], args := [d1, d2] }
  | _ => none }
def TimerFullWrongFalsely : Prop := timerFullRow.holds Try.pinned (OpenSpec.ofChange timerFullWrong)

/-- 'gemellaw10.TimerTurns': WHATEVER THE INPUT: true; the input reads as it did. -/
def timerTurnsSpec : ChangeSpec := { name := "timerTurns", fn := fun _ => fun
  | [d1, d2, d3, d4] => { results := [.lit (.bool true)], args := [d1, d2, d3, d4] }
  | _ => none }
def timerTurnsRow : OpenClaim := { program := "ytohbkepjbaigdaa", sum := "7da214c3f07a4a498bfbb57e1ae4df6e3193eaf18c647ba8729d634149412701", func := "gemel/gemellaw10.TimerTurns", spec := "timerTurns", unfollowed := true, recurses := true, apart := false }
def TimerTurnsSaid : Prop := timerTurnsRow.holds Try.pinned (OpenSpec.ofChange timerTurnsSpec)

/-- ITS FALSE NEIGHBOUR: 'it returns false'. Refute it at one input. -/
def timerTurnsWrong : ChangeSpec := { name := "timerTurns", fn := fun _ => fun
  | [d1, d2, d3, d4] => { results := [.lit (.bool false)], args := [d1, d2, d3, d4] }
  | _ => none }
def TimerTurnsWrongFalsely : Prop := timerTurnsRow.holds Try.pinned (OpenSpec.ofChange timerTurnsWrong)

/-- 'gemellaw10.TimerNexts': WHATEVER THE INPUT: true; the input reads as it did. -/
def timerNextsSpec : ChangeSpec := { name := "timerNexts", fn := fun _ => fun
  | [d] => { results := [.lit (.bool true)], args := [d] }
  | _ => none }
def timerNextsRow : OpenClaim := { program := "ytohbkepjbaigdaa", sum := "7da214c3f07a4a498bfbb57e1ae4df6e3193eaf18c647ba8729d634149412701", func := "gemel/gemellaw10.TimerNexts", spec := "timerNexts", unfollowed := true, recurses := true, apart := false }
def TimerNextsSaid : Prop := timerNextsRow.holds Try.pinned (OpenSpec.ofChange timerNextsSpec)

/-- ITS FALSE NEIGHBOUR: 'it returns false'. Refute it at one input. -/
def timerNextsWrong : ChangeSpec := { name := "timerNexts", fn := fun _ => fun
  | [d] => { results := [.lit (.bool false)], args := [d] }
  | _ => none }
def TimerNextsWrongFalsely : Prop := timerNextsRow.holds Try.pinned (OpenSpec.ofChange timerNextsWrong)

/- THE SECOND FORM. 'bulk': how many values and letters a reading holds, each counted each time it is reached (what is shared counts as often as it is met; a slice's spare places count too). A statement '..UptoSaid' is the law's where the arguments, and the package variables that the reading takes, are together of bulk at most 1048576: NARROWER than '..Said'. Prove '..Said' where nothing that the law and all that it calls make is longer than what came in: it says more and counts as full. Else prove '..UptoSaid'. A law counts once. -/
mutual
def uptoBulk {H : Type} : DataW H → Nat
  | .lit (.string bytes) => bytes.length + 1
  | .lit _ => 1
  | .nil => 1
  | .ptr d => uptoBulk d + 1
  | .slice elems spare => uptoBulkAll elems + uptoBulkAll spare + 1
  | .agg parts => uptoBulkAll parts + 1
  | .iface _ d => uptoBulk d + 1
  | .map entries => uptoBulkEntries entries + 1
  | .held _ => 1
def uptoBulkAll {H : Type} : List (DataW H) → Nat
  | [] => 0
  | d :: r => uptoBulk d + uptoBulkAll r
def uptoBulkEntries {H : Type} : List (Lit × DataW H) → Nat
  | [] => 0
  | x :: r => uptoBulkEntry x + uptoBulkEntries r
def uptoBulkEntry {H : Type} : Lit × DataW H → Nat
  | (.string bytes, d) => bytes.length + uptoBulk d + 1
  | (_, d) => uptoBulk d + 1
 end
def uptoSmall : (H : Type) → List (DataW H) → Bool := fun _ ds => decide (uptoBulkAll ds ≤ 1048576)
def OpenSpec.upto (s : _root_.Go.ChangeSpec) : _root_.Go.OpenSpec := { _root_.Go.OpenSpec.ofChange s with cond := some uptoSmall }

/-- 'gemellaw10.TimerPlays', WHERE WHAT IT READS IS OF BULK AT MOST 1048576: true; the input reads as it did. -/
def timerPlaysUptoRow : OpenClaim := { program := "ytohbkepjbaigdaa", sum := "7da214c3f07a4a498bfbb57e1ae4df6e3193eaf18c647ba8729d634149412701", func := "gemel/gemellaw10.TimerPlays", spec := "timerPlays", unfollowed := true, recurses := true, apart := false, narrowed := true }
def TimerPlaysUptoSaid : Prop := timerPlaysUptoRow.holds Try.pinned (OpenSpec.upto timerPlaysSpec)

/-- 'gemellaw10.TimerOrder', WHERE WHAT IT READS IS OF BULK AT MOST 1048576: true; the input reads as it did. -/
def timerOrderUptoRow : OpenClaim := { program := "ytohbkepjbaigdaa", sum := "7da214c3f07a4a498bfbb57e1ae4df6e3193eaf18c647ba8729d634149412701", func := "gemel/gemellaw10.TimerOrder", spec := "timerOrder", unfollowed := true, recurses := true, apart := false, narrowed := true }
def TimerOrderUptoSaid : Prop := timerOrderUptoRow.holds Try.pinned (OpenSpec.upto timerOrderSpec)

/-- 'gemellaw10.TimerFull', WHERE WHAT IT READS IS OF BULK AT MOST 1048576: true; the input reads as it did. -/
def timerFullUptoRow : OpenClaim := { program := "ytohbkepjbaigdaa", sum := "7da214c3f07a4a498bfbb57e1ae4df6e3193eaf18c647ba8729d634149412701", func := "gemel/gemellaw10.TimerFull", spec := "timerFull", unfollowed := true, recurses := true, apart := false, narrowed := true }
def TimerFullUptoSaid : Prop := timerFullUptoRow.holds Try.pinned (OpenSpec.upto timerFullSpec)

/-- 'gemellaw10.TimerTurns', WHERE WHAT IT READS IS OF BULK AT MOST 1048576: true; the input reads as it did. -/
def timerTurnsUptoRow : OpenClaim := { program := "ytohbkepjbaigdaa", sum := "7da214c3f07a4a498bfbb57e1ae4df6e3193eaf18c647ba8729d634149412701", func := "gemel/gemellaw10.TimerTurns", spec := "timerTurns", unfollowed := true, recurses := true, apart := false, narrowed := true }
def TimerTurnsUptoSaid : Prop := timerTurnsUptoRow.holds Try.pinned (OpenSpec.upto timerTurnsSpec)

/-- 'gemellaw10.TimerNexts', WHERE WHAT IT READS IS OF BULK AT MOST 1048576: true; the input reads as it did. -/
def timerNextsUptoRow : OpenClaim := { program := "ytohbkepjbaigdaa", sum := "7da214c3f07a4a498bfbb57e1ae4df6e3193eaf18c647ba8729d634149412701", func := "gemel/gemellaw10.TimerNexts", spec := "timerNexts", unfollowed := true, recurses := true, apart := false, narrowed := true }
def TimerNextsUptoSaid : Prop := timerNextsUptoRow.holds Try.pinned (OpenSpec.upto timerNextsSpec)

end Rows
end Go.Proofs.Ytohbkepjbaigdaa
