/-
  No cell of these rows narrows 'for every input' (looked for: loops, veiled, ifaces, maps, wideKeys, modest, calm, conditions, laid).
  DERIVED. THE GIVEN ROWS OF THIS SEAT. 5 by the template 'for every input the law returns true; each argument reads behind the call as it read before'; 0 by the template 'total and deterministic' (their statements: YtnjaofkieajnlabTotals.lean).
  GIVEN WITH THE SEED: the statements are not yours to turn. If you find one false, say at which input.
  Laid BY PROGRAM, IN A SANDBOX (cutbox-rows.mjs): the forced cells as the released guide's own fill.sh prints them over the translation feb12949088c695d… (all of the seat's roots in one cut). By AI agents, Wed Nov 11 2026. No macro, syntax, notation, axiom, sorry.
-/
import Derived.Test.YtnjaofkieajnlabChecked
import GoSem.Claim
import GoSem.ClaimJoined
import GoSem.ClaimMapViews
import Derived.JoinedTies
import Derived.KernelRfl
namespace Go.Proofs.Ytnjaofkieajnlab
/- THE CELL 'sum', in the pinned program and in every row, IS THE sha256 OF THE DUMP (.gsa) THAT YtnjaofkieajnlabProg.lean LOADS. Nothing in Lean hashes anything: it is a label: what it is worth is what the hold of that sum in a sandbox is worth. -/
noncomputable def Try.pinned : Pinned := { name := "ytnjaofkieajnlab", sum := "feb12949088c695d9af753efda07b0ad229964662fa0c02ece9614a060cb2ed0", checked := Try.checked }
namespace Rows
def none {H : Type} : Left H := { results := [], args := [] }

/-- 'refillkeep.Follows': WHATEVER THE INPUT: true; the input reads as it did. -/
def followsSpec : ChangeSpec := { name := "follows", fn := fun _ => fun
  | [d1, d2, d3] => { results := [.lit (.bool true)], args := [d1, d2, d3] }
  | _ => none }
def followsRow : OpenClaim := { program := "ytnjaofkieajnlab", sum := "feb12949088c695d9af753efda07b0ad229964662fa0c02ece9614a060cb2ed0", func := "refill/refillkeep.Follows", spec := "follows", apart := false }
def FollowsSaid : Prop := followsRow.holds Try.pinned (OpenSpec.ofChange followsSpec)

/-- ITS FALSE NEIGHBOUR: 'it returns false'. Refute it at one input. -/
def followsWrong : ChangeSpec := { name := "follows", fn := fun _ => fun
  | [d1, d2, d3] => { results := [.lit (.bool false)], args := [d1, d2, d3] }
  | _ => none }
def FollowsWrongFalsely : Prop := followsRow.holds Try.pinned (OpenSpec.ofChange followsWrong)

/-- 'refillkeep.Open': WHATEVER THE INPUT: true; the input reads as it did. -/
def openSpec : ChangeSpec := { name := "open", fn := fun _ => fun
  | [d1, d2, d3, d4, d5] => { results := [.lit (.bool true)], args := [d1, d2, d3, d4, d5] }
  | _ => none }
def openRow : OpenClaim := { program := "ytnjaofkieajnlab", sum := "feb12949088c695d9af753efda07b0ad229964662fa0c02ece9614a060cb2ed0", func := "refill/refillkeep.Open", spec := "open", apart := false }
def OpenSaid : Prop := openRow.holds Try.pinned (OpenSpec.ofChange openSpec)

/-- ITS FALSE NEIGHBOUR: 'it returns false'. Refute it at one input. -/
def openWrong : ChangeSpec := { name := "open", fn := fun _ => fun
  | [d1, d2, d3, d4, d5] => { results := [.lit (.bool false)], args := [d1, d2, d3, d4, d5] }
  | _ => none }
def OpenWrongFalsely : Prop := openRow.holds Try.pinned (OpenSpec.ofChange openWrong)

/-- 'refillkeep.Falls': WHATEVER THE INPUT: true; the input reads as it did. -/
def fallsSpec : ChangeSpec := { name := "falls", fn := fun _ => fun
  | [d1, d2, d3] => { results := [.lit (.bool true)], args := [d1, d2, d3] }
  | _ => none }
def fallsRow : OpenClaim := { program := "ytnjaofkieajnlab", sum := "feb12949088c695d9af753efda07b0ad229964662fa0c02ece9614a060cb2ed0", func := "refill/refillkeep.Falls", spec := "falls", apart := false }
def FallsSaid : Prop := fallsRow.holds Try.pinned (OpenSpec.ofChange fallsSpec)

/-- ITS FALSE NEIGHBOUR: 'it returns false'. Refute it at one input. -/
def fallsWrong : ChangeSpec := { name := "falls", fn := fun _ => fun
  | [d1, d2, d3] => { results := [.lit (.bool false)], args := [d1, d2, d3] }
  | _ => none }
def FallsWrongFalsely : Prop := fallsRow.holds Try.pinned (OpenSpec.ofChange fallsWrong)

/-- 'refillkeep.Carried': WHATEVER THE INPUT: true; the input reads as it did. -/
def carriedSpec : ChangeSpec := { name := "carried", fn := fun _ => fun
  | [d1, d2, d3, d4] => { results := [.lit (.bool true)], args := [d1, d2, d3, d4] }
  | _ => none }
def carriedRow : OpenClaim := { program := "ytnjaofkieajnlab", sum := "feb12949088c695d9af753efda07b0ad229964662fa0c02ece9614a060cb2ed0", func := "refill/refillkeep.Carried", spec := "carried", apart := false }
def CarriedSaid : Prop := carriedRow.holds Try.pinned (OpenSpec.ofChange carriedSpec)

/-- ITS FALSE NEIGHBOUR: 'it returns false'. Refute it at one input. -/
def carriedWrong : ChangeSpec := { name := "carried", fn := fun _ => fun
  | [d1, d2, d3, d4] => { results := [.lit (.bool false)], args := [d1, d2, d3, d4] }
  | _ => none }
def CarriedWrongFalsely : Prop := carriedRow.holds Try.pinned (OpenSpec.ofChange carriedWrong)

/-- 'refillkeep.Posted': WHATEVER THE INPUT: true; the input reads as it did. -/
def postedSpec : ChangeSpec := { name := "posted", fn := fun _ => fun
  | [d1, d2, d3, d4] => { results := [.lit (.bool true)], args := [d1, d2, d3, d4] }
  | _ => none }
def postedRow : OpenClaim := { program := "ytnjaofkieajnlab", sum := "feb12949088c695d9af753efda07b0ad229964662fa0c02ece9614a060cb2ed0", func := "refill/refillkeep.Posted", spec := "posted", apart := false }
def PostedSaid : Prop := postedRow.holds Try.pinned (OpenSpec.ofChange postedSpec)

/-- ITS FALSE NEIGHBOUR: 'it returns false'. Refute it at one input. -/
def postedWrong : ChangeSpec := { name := "posted", fn := fun _ => fun
  | [d1, d2, d3, d4] => { results := [.lit (.bool false)], args := [d1, d2, d3, d4] }
  | _ => none }
def PostedWrongFalsely : Prop := postedRow.holds Try.pinned (OpenSpec.ofChange postedWrong)

/- THE SECOND FORM. 'bulk': how many values and letters a reading holds, each counted each time it is reached (what is shared counts as often as it is met; a slice's spare places count too). A statement '..UptoSaid' is the law's where the arguments, and the package variables that the reading takes, are together of bulk at most 1048576: NARROWER than '..Said'. Prove '..Said' where nothing that the law and all that it calls make is longer than what came in: it says more and counts as full. Else prove '..UptoSaid'. A law counts once. -/
mutual
def uptoBulk {H : Type} : DataW H → Nat
  | .lit (.string bytes) => bytes.length + 1
  | .lit _ => 1
  | .nil => 1
  | .ptr d => uptoBulk d + 1
  | .slice elems spare => uptoBulkAll elems + uptoBulkAll spare + 1
  | .agg parts => uptoBulkAll parts + 1
  | .iface _ d => uptoBulk d + 1
  | .map entries => uptoBulkEntries entries + 1
  | .held _ => 1
def uptoBulkAll {H : Type} : List (DataW H) → Nat
  | [] => 0
  | d :: r => uptoBulk d + uptoBulkAll r
def uptoBulkEntries {H : Type} : List (Lit × DataW H) → Nat
  | [] => 0
  | x :: r => uptoBulkEntry x + uptoBulkEntries r
def uptoBulkEntry {H : Type} : Lit × DataW H → Nat
  | (.string bytes, d) => bytes.length + uptoBulk d + 1
  | (_, d) => uptoBulk d + 1
 end
def uptoSmall : (H : Type) → List (DataW H) → Bool := fun _ ds => decide (uptoBulkAll ds ≤ 1048576)
def OpenSpec.upto (s : _root_.Go.ChangeSpec) : _root_.Go.OpenSpec := { _root_.Go.OpenSpec.ofChange s with cond := some uptoSmall }

/-- 'refillkeep.Follows', WHERE WHAT IT READS IS OF BULK AT MOST 1048576: true; the input reads as it did. -/
def followsUptoRow : OpenClaim := { program := "ytnjaofkieajnlab", sum := "feb12949088c695d9af753efda07b0ad229964662fa0c02ece9614a060cb2ed0", func := "refill/refillkeep.Follows", spec := "follows", apart := false, narrowed := true }
def FollowsUptoSaid : Prop := followsUptoRow.holds Try.pinned (OpenSpec.upto followsSpec)

/-- 'refillkeep.Open', WHERE WHAT IT READS IS OF BULK AT MOST 1048576: true; the input reads as it did. -/
def openUptoRow : OpenClaim := { program := "ytnjaofkieajnlab", sum := "feb12949088c695d9af753efda07b0ad229964662fa0c02ece9614a060cb2ed0", func := "refill/refillkeep.Open", spec := "open", apart := false, narrowed := true }
def OpenUptoSaid : Prop := openUptoRow.holds Try.pinned (OpenSpec.upto openSpec)

/-- 'refillkeep.Falls', WHERE WHAT IT READS IS OF BULK AT MOST 1048576: true; the input reads as it did. -/
def fallsUptoRow : OpenClaim := { program := "ytnjaofkieajnlab", sum := "feb12949088c695d9af753efda07b0ad229964662fa0c02ece9614a060cb2ed0", func := "refill/refillkeep.Falls", spec := "falls", apart := false, narrowed := true }
def FallsUptoSaid : Prop := fallsUptoRow.holds Try.pinned (OpenSpec.upto fallsSpec)

/-- 'refillkeep.Carried', WHERE WHAT IT READS IS OF BULK AT MOST 1048576: true; the input reads as it did. -/
def carriedUptoRow : OpenClaim := { program := "ytnjaofkieajnlab", sum := "feb12949088c695d9af753efda07b0ad229964662fa0c02ece9614a060cb2ed0", func := "refill/refillkeep.Carried", spec := "carried", apart := false, narrowed := true }
def CarriedUptoSaid : Prop := carriedUptoRow.holds Try.pinned (OpenSpec.upto carriedSpec)

/-- 'refillkeep.Posted', WHERE WHAT IT READS IS OF BULK AT MOST 1048576: true; the input reads as it did. -/
def postedUptoRow : OpenClaim := { program := "ytnjaofkieajnlab", sum := "feb12949088c695d9af753efda07b0ad229964662fa0c02ece9614a060cb2ed0", func := "refill/refillkeep.Posted", spec := "posted", apart := false, narrowed := true }
def PostedUptoSaid : Prop := postedUptoRow.holds Try.pinned (OpenSpec.upto postedSpec)

end Rows
end Go.Proofs.Ytnjaofkieajnlab
