/- The document's Shaped; sameTexts says yes to two lists of the same texts; handed and still. -/
import Derived.Test.YtnjaofkieajnlabShape
import Derived.Laws.CopyOwn
namespace Go.Proofs.Ytnjaofkieajnlab
open Go.RowKit

theorem texts_cells {w : World} {ao : Option Addr} {l : List ByteArray} {q o : Nat} (hc : ∀ k, k < l.length → ∃ q o, ao = some ⟨q, o, none⟩ ∧ q < w.heap.size ∧ w.cell? ⟨q, o + k, none⟩ = some (.string (l.getD k ByteArray.empty))) (he : ao = some ⟨q, o, none⟩) :
    ∀ k, k < l.length → w.cell? ⟨q, o + k, none⟩ = some (.string (l.getD k ByteArray.empty)) := fun k hk => by
  obtain ⟨q', o', he', _, hcell⟩ := hc k hk
  rw [he] at he'
  simp at he'
  obtain ⟨rfl, rfl⟩ := he'
  exact hcell

/-- The answer tells whether p. -/
def Tells (p : Prop) (e : Ending) : Prop := ∃ b, e = .returned (.bool b) ∧ (p → b = true) ∧ (¬ p → b = false)

end Go.Proofs.Ytnjaofkieajnlab
