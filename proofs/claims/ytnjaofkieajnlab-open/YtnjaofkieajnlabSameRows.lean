/- sameRows says yes to two tables of the same rows. -/
import Derived.Test.YtnjaofkieajnlabRRows
import Derived.BigQuiet
import Derived.Deep.QuietTactic
namespace Go.Proofs.Ytnjaofkieajnlab
open Go.RowKit

/-- What a slice of numbers that is owned looks like. -/
theorem owns_view {w : World} {base : Nat} {v : Value} {l : List Nat} (h : w.ownsRow base 3 1 v l.length (numsV l)) :
    ∃ ao cap, v = .slice ao l.length cap ∧ ∀ k, k < l.length → ∃ q, ao = some ⟨q, 0, none⟩ ∧ w.cell? ⟨q, k, none⟩ = some (.int .i64 (l.getD k 0 : Int)) := by
  rcases owns_cells h with ⟨rfl, rfl⟩ | ⟨g, cap, rfl, _, hc⟩
  · exact ⟨none, 0, rfl, fun k hk => by simp at hk⟩
  · exact ⟨_, cap, rfl, fun k hk => ⟨g, rfl, hc k hk⟩⟩

end Go.Proofs.Ytnjaofkieajnlab
