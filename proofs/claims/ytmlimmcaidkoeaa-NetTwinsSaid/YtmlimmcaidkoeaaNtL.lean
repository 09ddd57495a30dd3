/- What every law's step asks of the program. -/
import Derived.Test.YtmlimmcaidkoeaaNt9
namespace Go.Proofs.Ytmlimmcaidkoeaa
theorem own : ownKnob Try.prog.godebug = none := by kernel_rfl
theorem laidOut : laidOutB Try.prog = true := by kernel_rfl
end Go.Proofs.Ytmlimmcaidkoeaa
