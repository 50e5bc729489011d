/-
  No cell of these rows narrows 'for every input' (looked for: loops, veiled, ifaces, maps, wideKeys, modest, calm, conditions, laid).
  DERIVED. THE GIVEN ROWS OF THIS SEAT. 8 by the template 'for every input the law returns true; each argument reads behind the call as it read before'; 0 by the template 'total and deterministic' (their statements: YtnjaofkieajnlaaTotals.lean).
  GIVEN WITH THE SEED: the statements are not yours to turn. If you find one false, say at which input.
  Laid BY PROGRAM, IN A SANDBOX (cutbox-rows.mjs): the forced cells as the released guide's own fill.sh prints them over the translation 173ee61690dc77f6… (all of the seat's roots in one cut). By AI agents, Wed Nov 11 2026. No macro, syntax, notation, axiom, sorry.
-/
import Derived.Test.YtnjaofkieajnlaaChecked
import GoSem.Claim
import GoSem.ClaimJoined
import GoSem.ClaimMapViews
import Derived.JoinedTies
import Derived.KernelRfl
namespace Go.Proofs.Ytnjaofkieajnlaa
/- THE CELL 'sum', in the pinned program and in every row, IS THE sha256 OF THE DUMP (.gsa) THAT YtnjaofkieajnlaaProg.lean LOADS. Nothing in Lean hashes anything: it is a label: what it is worth is what the hold of that sum in a sandbox is worth. -/
noncomputable def Try.pinned : Pinned := { name := "ytnjaofkieajnlaa", sum := "173ee61690dc77f655dc02e637f1ff35330e01d8fb8710ff530f3bdcf4aabf81", checked := Try.checked }
namespace Rows
def none {H : Type} : Left H := { results := [], args := [] }

/-- 'refilllaw.Rowed': WHATEVER THE INPUT: true; the input reads as it did. -/
def rowedSpec : ChangeSpec := { name := "rowed", fn := fun _ => fun
  | [d] => { results := [.lit (.bool true)], args := [d] }
  | _ => none }
def rowedRow : OpenClaim := { program := "ytnjaofkieajnlaa", sum := "173ee61690dc77f655dc02e637f1ff35330e01d8fb8710ff530f3bdcf4aabf81", func := "refill/refilllaw.Rowed", spec := "rowed", apart := false }
def RowedSaid : Prop := rowedRow.holds Try.pinned (OpenSpec.ofChange rowedSpec)

/-- ITS FALSE NEIGHBOUR: 'it returns false'. Refute it at one input. -/
def rowedWrong : ChangeSpec := { name := "rowed", fn := fun _ => fun
  | [d] => { results := [.lit (.bool false)], args := [d] }
  | _ => none }
def RowedWrongFalsely : Prop := rowedRow.holds Try.pinned (OpenSpec.ofChange rowedWrong)

/-- 'refilllaw.Spared': WHATEVER THE INPUT: true; the input reads as it did. -/
def sparedSpec : ChangeSpec := { name := "spared", fn := fun _ => fun
  | [d1, d2] => { results := [.lit (.bool true)], args := [d1, d2] }
  | _ => none }
def sparedRow : OpenClaim := { program := "ytnjaofkieajnlaa", sum := "173ee61690dc77f655dc02e637f1ff35330e01d8fb8710ff530f3bdcf4aabf81", func := "refill/refilllaw.Spared", spec := "spared", apart := false }
def SparedSaid : Prop := sparedRow.holds Try.pinned (OpenSpec.ofChange sparedSpec)

/-- ITS FALSE NEIGHBOUR: 'it returns false'. Refute it at one input. -/
def sparedWrong : ChangeSpec := { name := "spared", fn := fun _ => fun
  | [d1, d2] => { results := [.lit (.bool false)], args := [d1, d2] }
  | _ => none }
def SparedWrongFalsely : Prop := sparedRow.holds Try.pinned (OpenSpec.ofChange sparedWrong)

/-- 'refilllaw.Fitted': WHATEVER THE INPUT: true; the input reads as it did. -/
def fittedSpec : ChangeSpec := { name := "fitted", fn := fun _ => fun
  | [d1, d2] => { results := [.lit (.bool true)], args := [d1, d2] }
  | _ => none }
def fittedRow : OpenClaim := { program := "ytnjaofkieajnlaa", sum := "173ee61690dc77f655dc02e637f1ff35330e01d8fb8710ff530f3bdcf4aabf81", func := "refill/refilllaw.Fitted", spec := "fitted", apart := false }
def FittedSaid : Prop := fittedRow.holds Try.pinned (OpenSpec.ofChange fittedSpec)

/-- ITS FALSE NEIGHBOUR: 'it returns false'. Refute it at one input. -/
def fittedWrong : ChangeSpec := { name := "fitted", fn := fun _ => fun
  | [d1, d2] => { results := [.lit (.bool false)], args := [d1, d2] }
  | _ => none }
def FittedWrongFalsely : Prop := fittedRow.holds Try.pinned (OpenSpec.ofChange fittedWrong)

/-- 'refilllaw.Sent': WHATEVER THE INPUT: true; the input reads as it did. -/
def sentSpec : ChangeSpec := { name := "sent", fn := fun _ => fun
  | [d1, d2, d3] => { results := [.lit (.bool true)], args := [d1, d2, d3] }
  | _ => none }
def sentRow : OpenClaim := { program := "ytnjaofkieajnlaa", sum := "173ee61690dc77f655dc02e637f1ff35330e01d8fb8710ff530f3bdcf4aabf81", func := "refill/refilllaw.Sent", spec := "sent", apart := false }
def SentSaid : Prop := sentRow.holds Try.pinned (OpenSpec.ofChange sentSpec)

/-- ITS FALSE NEIGHBOUR: 'it returns false'. Refute it at one input. -/
def sentWrong : ChangeSpec := { name := "sent", fn := fun _ => fun
  | [d1, d2, d3] => { results := [.lit (.bool false)], args := [d1, d2, d3] }
  | _ => none }
def SentWrongFalsely : Prop := sentRow.holds Try.pinned (OpenSpec.ofChange sentWrong)

/-- 'refilllaw.Mailed': WHATEVER THE INPUT: true; the input reads as it did. -/
def mailedSpec : ChangeSpec := { name := "mailed", fn := fun _ => fun
  | [d1, d2, d3, d4] => { results := [.lit (.bool true)], args := [d1, d2, d3, d4] }
  | _ => none }
def mailedRow : OpenClaim := { program := "ytnjaofkieajnlaa", sum := "173ee61690dc77f655dc02e637f1ff35330e01d8fb8710ff530f3bdcf4aabf81", func := "refill/refilllaw.Mailed", spec := "mailed", apart := false }
def MailedSaid : Prop := mailedRow.holds Try.pinned (OpenSpec.ofChange mailedSpec)

/-- ITS FALSE NEIGHBOUR: 'it returns false'. Refute it at one input. -/
def mailedWrong : ChangeSpec := { name := "mailed", fn := fun _ => fun
  | [d1, d2, d3, d4] => { results := [.lit (.bool false)], args := [d1, d2, d3, d4] }
  | _ => none }
def MailedWrongFalsely : Prop := mailedRow.holds Try.pinned (OpenSpec.ofChange mailedWrong)

/-- 'refillkeep.Known': WHATEVER THE INPUT: true; the input reads as it did. -/
def knownSpec : ChangeSpec := { name := "known", fn := fun _ => fun
  | [d] => { results := [.lit (.bool true)], args := [d] }
  | _ => none }
def knownRow : OpenClaim := { program := "ytnjaofkieajnlaa", sum := "173ee61690dc77f655dc02e637f1ff35330e01d8fb8710ff530f3bdcf4aabf81", func := "refill/refillkeep.Known", spec := "known", apart := false }
def KnownSaid : Prop := knownRow.holds Try.pinned (OpenSpec.ofChange knownSpec)

/-- ITS FALSE NEIGHBOUR: 'it returns false'. Refute it at one input. -/
def knownWrong : ChangeSpec := { name := "known", fn := fun _ => fun
  | [d] => { results := [.lit (.bool false)], args := [d] }
  | _ => none }
def KnownWrongFalsely : Prop := knownRow.holds Try.pinned (OpenSpec.ofChange knownWrong)

/-- 'refillkeep.Words': WHATEVER THE INPUT: true; the input reads as it did. -/
def wordsSpec : ChangeSpec := { name := "words", fn := fun _ => fun
  | [d1, d2, d3] => { results := [.lit (.bool true)], args := [d1, d2, d3] }
  | _ => none }
def wordsRow : OpenClaim := { program := "ytnjaofkieajnlaa", sum := "173ee61690dc77f655dc02e637f1ff35330e01d8fb8710ff530f3bdcf4aabf81", func := "refill/refillkeep.Words", spec := "words", apart := false }
def WordsSaid : Prop := wordsRow.holds Try.pinned (OpenSpec.ofChange wordsSpec)

/-- ITS FALSE NEIGHBOUR: 'it returns false'. Refute it at one input. -/
def wordsWrong : ChangeSpec := { name := "words", fn := fun _ => fun
  | [d1, d2, d3] => { results := [.lit (.bool false)], args := [d1, d2, d3] }
  | _ => none }
def WordsWrongFalsely : Prop := wordsRow.holds Try.pinned (OpenSpec.ofChange wordsWrong)

/-- 'refillkeep.Sums': WHATEVER THE INPUT: true; the input reads as it did. -/
def sumsSpec : ChangeSpec := { name := "sums", fn := fun _ => fun
  | [d1, d2] => { results := [.lit (.bool true)], args := [d1, d2] }
  | _ => none }
def sumsRow : OpenClaim := { program := "ytnjaofkieajnlaa", sum := "173ee61690dc77f655dc02e637f1ff35330e01d8fb8710ff530f3bdcf4aabf81", func := "refill/refillkeep.Sums", spec := "sums", apart := false }
def SumsSaid : Prop := sumsRow.holds Try.pinned (OpenSpec.ofChange sumsSpec)

/-- ITS FALSE NEIGHBOUR: 'it returns false'. Refute it at one input. -/
def sumsWrong : ChangeSpec := { name := "sums", fn := fun _ => fun
  | [d1, d2] => { results := [.lit (.bool false)], args := [d1, d2] }
  | _ => none }
def SumsWrongFalsely : Prop := sumsRow.holds Try.pinned (OpenSpec.ofChange sumsWrong)

/- THE SECOND FORM. 'bulk': how many values and letters a reading holds, each counted each time it is reached (what is shared counts as often as it is met; a slice's spare places count too). A statement '..UptoSaid' is the law's where the arguments, and the package variables that the reading takes, are together of bulk at most 1048576: NARROWER than '..Said'. Prove '..Said' where nothing that the law and all that it calls make is longer than what came in: it says more and counts as full. Else prove '..UptoSaid'. A law counts once. -/
mutual
def uptoBulk {H : Type} : DataW H → Nat
  | .lit (.string bytes) => bytes.length + 1
  | .lit _ => 1
  | .nil => 1
  | .ptr d => uptoBulk d + 1
  | .slice elems spare => uptoBulkAll elems + uptoBulkAll spare + 1
  | .agg parts => uptoBulkAll parts + 1
  | .iface _ d => uptoBulk d + 1
  | .map entries => uptoBulkEntries entries + 1
  | .held _ => 1
def uptoBulkAll {H : Type} : List (DataW H) → Nat
  | [] => 0
  | d :: r => uptoBulk d + uptoBulkAll r
def uptoBulkEntries {H : Type} : List (Lit × DataW H) → Nat
  | [] => 0
  | x :: r => uptoBulkEntry x + uptoBulkEntries r
def uptoBulkEntry {H : Type} : Lit × DataW H → Nat
  | (.string bytes, d) => bytes.length + uptoBulk d + 1
  | (_, d) => uptoBulk d + 1
 end
def uptoSmall : (H : Type) → List (DataW H) → Bool := fun _ ds => decide (uptoBulkAll ds ≤ 1048576)
def OpenSpec.upto (s : _root_.Go.ChangeSpec) : _root_.Go.OpenSpec := { _root_.Go.OpenSpec.ofChange s with cond := some uptoSmall }

/-- 'refilllaw.Rowed', WHERE WHAT IT READS IS OF BULK AT MOST 1048576: true; the input reads as it did. -/
def rowedUptoRow : OpenClaim := { program := "ytnjaofkieajnlaa", sum := "173ee61690dc77f655dc02e637f1ff35330e01d8fb8710ff530f3bdcf4aabf81", func := "refill/refilllaw.Rowed", spec := "rowed", apart := false, narrowed := true }
def RowedUptoSaid : Prop := rowedUptoRow.holds Try.pinned (OpenSpec.upto rowedSpec)

/-- 'refilllaw.Spared', WHERE WHAT IT READS IS OF BULK AT MOST 1048576: true; the input reads as it did. -/
def sparedUptoRow : OpenClaim := { program := "ytnjaofkieajnlaa", sum := "173ee61690dc77f655dc02e637f1ff35330e01d8fb8710ff530f3bdcf4aabf81", func := "refill/refilllaw.Spared", spec := "spared", apart := false, narrowed := true }
def SparedUptoSaid : Prop := sparedUptoRow.holds Try.pinned (OpenSpec.upto sparedSpec)

/-- 'refilllaw.Fitted', WHERE WHAT IT READS IS OF BULK AT MOST 1048576: true; the input reads as it did. -/
def fittedUptoRow : OpenClaim := { program := "ytnjaofkieajnlaa", sum := "173ee61690dc77f655dc02e637f1ff35330e01d8fb8710ff530f3bdcf4aabf81", func := "refill/refilllaw.Fitted", spec := "fitted", apart := false, narrowed := true }
def FittedUptoSaid : Prop := fittedUptoRow.holds Try.pinned (OpenSpec.upto fittedSpec)

/-- 'refilllaw.Sent', WHERE WHAT IT READS IS OF BULK AT MOST 1048576: true; the input reads as it did. -/
def sentUptoRow : OpenClaim := { program := "ytnjaofkieajnlaa", sum := "173ee61690dc77f655dc02e637f1ff35330e01d8fb8710ff530f3bdcf4aabf81", func := "refill/refilllaw.Sent", spec := "sent", apart := false, narrowed := true }
def SentUptoSaid : Prop := sentUptoRow.holds Try.pinned (OpenSpec.upto sentSpec)

/-- 'refilllaw.Mailed', WHERE WHAT IT READS IS OF BULK AT MOST 1048576: true; the input reads as it did. -/
def mailedUptoRow : OpenClaim := { program := "ytnjaofkieajnlaa", sum := "173ee61690dc77f655dc02e637f1ff35330e01d8fb8710ff530f3bdcf4aabf81", func := "refill/refilllaw.Mailed", spec := "mailed", apart := false, narrowed := true }
def MailedUptoSaid : Prop := mailedUptoRow.holds Try.pinned (OpenSpec.upto mailedSpec)

/-- 'refillkeep.Known', WHERE WHAT IT READS IS OF BULK AT MOST 1048576: true; the input reads as it did. -/
def knownUptoRow : OpenClaim := { program := "ytnjaofkieajnlaa", sum := "173ee61690dc77f655dc02e637f1ff35330e01d8fb8710ff530f3bdcf4aabf81", func := "refill/refillkeep.Known", spec := "known", apart := false, narrowed := true }
def KnownUptoSaid : Prop := knownUptoRow.holds Try.pinned (OpenSpec.upto knownSpec)

/-- 'refillkeep.Words', WHERE WHAT IT READS IS OF BULK AT MOST 1048576: true; the input reads as it did. -/
def wordsUptoRow : OpenClaim := { program := "ytnjaofkieajnlaa", sum := "173ee61690dc77f655dc02e637f1ff35330e01d8fb8710ff530f3bdcf4aabf81", func := "refill/refillkeep.Words", spec := "words", apart := false, narrowed := true }
def WordsUptoSaid : Prop := wordsUptoRow.holds Try.pinned (OpenSpec.upto wordsSpec)

/-- 'refillkeep.Sums', WHERE WHAT IT READS IS OF BULK AT MOST 1048576: true; the input reads as it did. -/
def sumsUptoRow : OpenClaim := { program := "ytnjaofkieajnlaa", sum := "173ee61690dc77f655dc02e637f1ff35330e01d8fb8710ff530f3bdcf4aabf81", func := "refill/refillkeep.Sums", spec := "sums", apart := false, narrowed := true }
def SumsUptoSaid : Prop := sumsUptoRow.holds Try.pinned (OpenSpec.upto sumsSpec)

end Rows
end Go.Proofs.Ytnjaofkieajnlaa
