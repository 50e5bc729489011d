/- The document's answer: has, and its Rows; and sameRows, which holds two tables of rows against each other. -/
import Derived.Test.YtnjaofkieajnlabWRows
namespace Go.Proofs.Ytnjaofkieajnlab
open Go.RowKit

/-- The cells of an owned row of numbers. -/
theorem owns_cells {w : World} {base : Nat} {v : Value} {l : List Nat} (h : w.ownsRow base 3 1 v l.length (numsV l)) : (v = .slice none 0 0 ∧ l = []) ∨
    ∃ g cap, v = .slice (some ⟨g, 0, none⟩) l.length cap ∧ l.length ≤ cap ∧ ∀ k, k < l.length → w.cell? ⟨g, k, none⟩ = some (.int .i64 (l.getD k 0 : Int)) := by
  rcases h.2 with ⟨rfl, hn⟩ | ⟨g, cap, cur, rfl, _, hg, hc, _, _, ht⟩
  · exact Or.inl ⟨rfl, by simpa using hn⟩
  · refine Or.inr ⟨g, cap, rfl, hc, fun k hk => ?_⟩
    rw [cell_of_row _ _ _ _ _ _ hg]
    have h1 : (numsV l)[k]? = some (.int .i64 (l.getD k 0 : Int)) := by simp [numsV, hk]
    rw [← ht, List.getElem?_take] at h1
    rw [if_pos (by omega)] at h1
    simpa using h1

end Go.Proofs.Ytnjaofkieajnlab
