/- For every specification, whatever its four numbers, the law Rowed answers true: the program's Rows gives what the document asks, or its error; no condition. -/
import Derived.Test.YtnjaofkieajnlabRows
import Derived.Test.YtnjaofkieajnlabRowed
import Derived.ProofKit
import Derived.OpenShut
import Derived.ChangeOld
import Derived.Below
import Derived.Lib.SmallJoins
namespace Go.Proofs.Ytnjaofkieajnlab
open Go.ChangeShapes Go.WideShapes Go.ChangeAt Go.RowKit Go.Joins

theorem Try.own : ownKnob Try.prog.godebug = none := by kernel_rfl
theorem Try.laidOut : laidOutB Try.prog = true := by kernel_rfl
theorem Try.cellsSpec : Try.prog.cellsOf 24 = 4 := by kernel_rfl

end Go.Proofs.Ytnjaofkieajnlab
