/- For every specification, whatever its four numbers, the law Rowed answers true: the program's Rows gives what the document asks, or its error; no condition. -/
import Derived.Test.YtnjaofkieajnlaaGreatRows
import Derived.Test.YtnjaofkieajnlaaGreatRowed
import Derived.ProofKit
import Derived.OpenShut
import Derived.ChangeOld
import Derived.Below
import Derived.Lib.SmallJoins
namespace Go.Proofs.YtnjaofkieajnlaaGreat
open Go.ChangeShapes Go.WideShapes Go.ChangeAt Go.RowKit Go.Joins

theorem Tryz.own : ownKnob Tryz.prog.godebug = none := by kernel_rfl
theorem Tryz.laidOut : laidOutB Tryz.prog = true := by kernel_rfl
theorem Tryz.cellsSpec : Tryz.prog.cellsOf 25 = 4 := by kernel_rfl

end Go.Proofs.YtnjaofkieajnlaaGreat
