/-
  No cell of these rows narrows 'for every input' (looked for: loops, veiled, ifaces, maps, wideKeys, modest, calm, conditions, laid).
  DERIVED. THE GIVEN ROWS OF THIS SEAT. 6 by the template 'for every input the law returns true; each argument reads behind the call as it read before'; 0 by the template 'total and deterministic' (their statements: YtalaegboibaeiaaTotals.lean).
  GIVEN WITH THE SEED: the statements are not yours to turn. If you find one false, say at which input.
  Laid BY PROGRAM, IN A SANDBOX (cutbox-rows.mjs): the forced cells as the released guide's own fill.sh prints them over the translation 728fb1d4b797b1b4… (all of the seat's roots in one cut). By AI agents, Wed Nov 11 2026. No macro, syntax, notation, axiom, sorry.
-/
import Derived.Test.YtalaegboibaeiaaChecked
import GoSem.Claim
import GoSem.ClaimJoined
import GoSem.ClaimMapViews
import Derived.JoinedTies
import Derived.KernelRfl
namespace Go.Proofs.Ytalaegboibaeiaa
/- THE CELL 'sum', in the pinned program and in every row, IS THE sha256 OF THE DUMP (.gsa) THAT YtalaegboibaeiaaProg.lean LOADS. Nothing in Lean hashes anything: it is a label: what it is worth is what the hold of that sum in a sandbox is worth. -/
noncomputable def Try.pinned : Pinned := { name := "ytalaegboibaeiaa", sum := "728fb1d4b797b1b4d4f58190e67d2f943b1a806870d414b00b94a9d9719e5c19", checked := Try.checked }
namespace Rows
def none {H : Type} : Left H := { results := [], args := [] }

/-- 'refilllaw.Rowed': WHATEVER THE INPUT: true; the input reads as it did. -/
def rowedSpec : ChangeSpec := { name := "rowed", fn := fun _ => fun
  | [d] => { results := [.lit (.bool true)], args := [d] }
  | _ => none }
def rowedRow : OpenClaim := { program := "ytalaegboibaeiaa", sum := "728fb1d4b797b1b4d4f58190e67d2f943b1a806870d414b00b94a9d9719e5c19", func := "refill/refilllaw.Rowed", spec := "rowed", apart := false }
def RowedSaid : Prop := rowedRow.holds Try.pinned (OpenSpec.ofChange rowedSpec)

/-- ITS FALSE NEIGHBOUR: 'it returns false'. Refute it at one input. -/
def rowedWrong : ChangeSpec := { name := "rowed", fn := fun _ => fun
  | [d] => { results := [.lit (.bool false)], args := [d] }
  | _ => none }
def RowedWrongFalsely : Prop := rowedRow.holds Try.pinned (OpenSpec.ofChange rowedWrong)

/-- 'refilllaw.Spared': WHATEVER THE INPUT: true; the input reads as it did. -/
def sparedSpec : ChangeSpec := { name := "spared", fn := fun _ => fun
  | [d1, d2] => { results := [.lit (.bool true)], args := [d1, d2] }
  | _ => none }
def sparedRow : OpenClaim := { program := "ytalaegboibaeiaa", sum := "728fb1d4b797b1b4d4f58190e67d2f943b1a806870d414b00b94a9d9719e5c19", func := "refill/refilllaw.Spared", spec := "spared", apart := false }
def SparedSaid : Prop := sparedRow.holds Try.pinned (OpenSpec.ofChange sparedSpec)

/-- ITS FALSE NEIGHBOUR: 'it returns false'. Refute it at one input. -/
def sparedWrong : ChangeSpec := { name := "spared", fn := fun _ => fun
  | [d1, d2] => { results := [.lit (.bool false)], args := [d1, d2] }
  | _ => none }
def SparedWrongFalsely : Prop := sparedRow.holds Try.pinned (OpenSpec.ofChange sparedWrong)

/-- 'refilllaw.Fitted': WHATEVER THE INPUT: true; the input reads as it did. -/
def fittedSpec : ChangeSpec := { name := "fitted", fn := fun _ => fun
  | [d1, d2] => { results := [.lit (.bool true)], args := [d1, d2] }
  | _ => none }
def fittedRow : OpenClaim := { program := "ytalaegboibaeiaa", sum := "728fb1d4b797b1b4d4f58190e67d2f943b1a806870d414b00b94a9d9719e5c19", func := "refill/refilllaw.Fitted", spec := "fitted", apart := false }
def FittedSaid : Prop := fittedRow.holds Try.pinned (OpenSpec.ofChange fittedSpec)

/-- ITS FALSE NEIGHBOUR: 'it returns false'. Refute it at one input. -/
def fittedWrong : ChangeSpec := { name := "fitted", fn := fun _ => fun
  | [d1, d2] => { results := [.lit (.bool false)], args := [d1, d2] }
  | _ => none }
def FittedWrongFalsely : Prop := fittedRow.holds Try.pinned (OpenSpec.ofChange fittedWrong)

/-- 'refilllaw.Sent': WHATEVER THE INPUT: true; the input reads as it did. -/
def sentSpec : ChangeSpec := { name := "sent", fn := fun _ => fun
  | [d1, d2, d3] => { results := [.lit (.bool true)], args := [d1, d2, d3] }
  | _ => none }
def sentRow : OpenClaim := { program := "ytalaegboibaeiaa", sum := "728fb1d4b797b1b4d4f58190e67d2f943b1a806870d414b00b94a9d9719e5c19", func := "refill/refilllaw.Sent", spec := "sent", apart := false }
def SentSaid : Prop := sentRow.holds Try.pinned (OpenSpec.ofChange sentSpec)

/-- ITS FALSE NEIGHBOUR: 'it returns false'. Refute it at one input. -/
def sentWrong : ChangeSpec := { name := "sent", fn := fun _ => fun
  | [d1, d2, d3] => { results := [.lit (.bool false)], args := [d1, d2, d3] }
  | _ => none }
def SentWrongFalsely : Prop := sentRow.holds Try.pinned (OpenSpec.ofChange sentWrong)

/-- 'refillkeep.Words': WHATEVER THE INPUT: true; the input reads as it did. -/
def wordsSpec : ChangeSpec := { name := "words", fn := fun _ => fun
  | [d1, d2, d3] => { results := [.lit (.bool true)], args := [d1, d2, d3] }
  | _ => none }
def wordsRow : OpenClaim := { program := "ytalaegboibaeiaa", sum := "728fb1d4b797b1b4d4f58190e67d2f943b1a806870d414b00b94a9d9719e5c19", func := "refill/refillkeep.Words", spec := "words", apart := false }
def WordsSaid : Prop := wordsRow.holds Try.pinned (OpenSpec.ofChange wordsSpec)

/-- ITS FALSE NEIGHBOUR: 'it returns false'. Refute it at one input. -/
def wordsWrong : ChangeSpec := { name := "words", fn := fun _ => fun
  | [d1, d2, d3] => { results := [.lit (.bool false)], args := [d1, d2, d3] }
  | _ => none }
def WordsWrongFalsely : Prop := wordsRow.holds Try.pinned (OpenSpec.ofChange wordsWrong)

/-- 'refillkeep.Sums': WHATEVER THE INPUT: true; the input reads as it did. -/
def sumsSpec : ChangeSpec := { name := "sums", fn := fun _ => fun
  | [d1, d2] => { results := [.lit (.bool true)], args := [d1, d2] }
  | _ => none }
def sumsRow : OpenClaim := { program := "ytalaegboibaeiaa", sum := "728fb1d4b797b1b4d4f58190e67d2f943b1a806870d414b00b94a9d9719e5c19", func := "refill/refillkeep.Sums", spec := "sums", apart := false }
def SumsSaid : Prop := sumsRow.holds Try.pinned (OpenSpec.ofChange sumsSpec)

/-- ITS FALSE NEIGHBOUR: 'it returns false'. Refute it at one input. -/
def sumsWrong : ChangeSpec := { name := "sums", fn := fun _ => fun
  | [d1, d2] => { results := [.lit (.bool false)], args := [d1, d2] }
  | _ => none }
def SumsWrongFalsely : Prop := sumsRow.holds Try.pinned (OpenSpec.ofChange sumsWrong)

/- THE SECOND FORM. 'bulk': how many values and letters a reading holds, each counted each time it is reached (what is shared counts as often as it is met; a slice's spare places count too). A statement '..UptoSaid' is the law's where the arguments, and the package variables that the reading takes, are together of bulk at most 1048576: NARROWER than '..Said'. Prove '..Said' where nothing that the law and all that it calls make is longer than what came in: it says more and counts as full. Else prove '..UptoSaid'. A law counts once. -/
mutual
def uptoBulk {H : Type} : DataW H → Nat
  | .lit (.string bytes) => bytes.length + 1
  | .lit _ => 1
  | .nil => 1
  | .ptr d => uptoBulk d + 1
  | .slice elems spare => uptoBulkAll elems + uptoBulkAll spare + 1
  | .agg parts => uptoBulkAll parts + 1
  | .iface _ d => uptoBulk d + 1
  | .map entries => uptoBulkEntries entries + 1
  | .held _ => 1
def uptoBulkAll {H : Type} : List (DataW H) → Nat
  | [] => 0
  | d :: r => uptoBulk d + uptoBulkAll r
def uptoBulkEntries {H : Type} : List (Lit × DataW H) → Nat
  | [] => 0
  | x :: r => uptoBulkEntry x + uptoBulkEntries r
def uptoBulkEntry {H : Type} : Lit × DataW H → Nat
  | (.string bytes, d) => bytes.length + uptoBulk d + 1
  | (_, d) => uptoBulk d + 1
 end
def uptoSmall : (H : Type) → List (DataW H) → Bool := fun _ ds => decide (uptoBulkAll ds ≤ 1048576)
def OpenSpec.upto (s : _root_.Go.ChangeSpec) : _root_.Go.OpenSpec := { _root_.Go.OpenSpec.ofChange s with cond := some uptoSmall }

/-- 'refilllaw.Rowed', WHERE WHAT IT READS IS OF BULK AT MOST 1048576: true; the input reads as it did. -/
def rowedUptoRow : OpenClaim := { program := "ytalaegboibaeiaa", sum := "728fb1d4b797b1b4d4f58190e67d2f943b1a806870d414b00b94a9d9719e5c19", func := "refill/refilllaw.Rowed", spec := "rowed", apart := false, narrowed := true }
def RowedUptoSaid : Prop := rowedUptoRow.holds Try.pinned (OpenSpec.upto rowedSpec)

/-- 'refilllaw.Spared', WHERE WHAT IT READS IS OF BULK AT MOST 1048576: true; the input reads as it did. -/
def sparedUptoRow : OpenClaim := { program := "ytalaegboibaeiaa", sum := "728fb1d4b797b1b4d4f58190e67d2f943b1a806870d414b00b94a9d9719e5c19", func := "refill/refilllaw.Spared", spec := "spared", apart := false, narrowed := true }
def SparedUptoSaid : Prop := sparedUptoRow.holds Try.pinned (OpenSpec.upto sparedSpec)

/-- 'refilllaw.Fitted', WHERE WHAT IT READS IS OF BULK AT MOST 1048576: true; the input reads as it did. -/
def fittedUptoRow : OpenClaim := { program := "ytalaegboibaeiaa", sum := "728fb1d4b797b1b4d4f58190e67d2f943b1a806870d414b00b94a9d9719e5c19", func := "refill/refilllaw.Fitted", spec := "fitted", apart := false, narrowed := true }
def FittedUptoSaid : Prop := fittedUptoRow.holds Try.pinned (OpenSpec.upto fittedSpec)

/-- 'refilllaw.Sent', WHERE WHAT IT READS IS OF BULK AT MOST 1048576: true; the input reads as it did. -/
def sentUptoRow : OpenClaim := { program := "ytalaegboibaeiaa", sum := "728fb1d4b797b1b4d4f58190e67d2f943b1a806870d414b00b94a9d9719e5c19", func := "refill/refilllaw.Sent", spec := "sent", apart := false, narrowed := true }
def SentUptoSaid : Prop := sentUptoRow.holds Try.pinned (OpenSpec.upto sentSpec)

/-- 'refillkeep.Words', WHERE WHAT IT READS IS OF BULK AT MOST 1048576: true; the input reads as it did. -/
def wordsUptoRow : OpenClaim := { program := "ytalaegboibaeiaa", sum := "728fb1d4b797b1b4d4f58190e67d2f943b1a806870d414b00b94a9d9719e5c19", func := "refill/refillkeep.Words", spec := "words", apart := false, narrowed := true }
def WordsUptoSaid : Prop := wordsUptoRow.holds Try.pinned (OpenSpec.upto wordsSpec)

/-- 'refillkeep.Sums', WHERE WHAT IT READS IS OF BULK AT MOST 1048576: true; the input reads as it did. -/
def sumsUptoRow : OpenClaim := { program := "ytalaegboibaeiaa", sum := "728fb1d4b797b1b4d4f58190e67d2f943b1a806870d414b00b94a9d9719e5c19", func := "refill/refillkeep.Sums", spec := "sums", apart := false, narrowed := true }
def SumsUptoSaid : Prop := sumsUptoRow.holds Try.pinned (OpenSpec.upto sumsSpec)

end Rows
end Go.Proofs.Ytalaegboibaeiaa
