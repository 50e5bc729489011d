/- Rowed: for every specification the program's Rows answers as the document asks. -/
import Derived.Test.YtnjaofkieajnlabSameRows
namespace Go.Proofs.Ytnjaofkieajnlab
open Go.RowKit

theorem may_nats {K M O S : Int} (h : mayB K M O S = true) : ∃ k m o s : Nat, K = k ∧ M = m ∧ O = o ∧ S = s ∧ (1 ≤ k ∧ k ≤ 20) ∧ (1 ≤ m ∧ m ≤ 20) ∧ (1 ≤ o ∧ o ≤ m) ∧ s ≤ 65535 := by
  have hh := mayB_true h
  exact ⟨K.toNat, M.toNat, O.toNat, S.toNat, by omega, by omega, by omega, by omega, by omega, by omega, by omega, by omega⟩

theorem block_on {w w1 : World} {h : Nat} {o : Obj} (hs : w.heap[h]? = some o) (hb : Below w.heap.size w w1) : w1.heap[h]? = some o := by
  rw [hb.block h (Array.getElem?_eq_some_iff.1 hs).1]; exact hs

/-- The cells of a specification of whatever numbers. -/
theorem spec_cellsI {w : World} {h : Nat} {K M O S : Int} (hs : w.heap[h]? = some (.cells #[.int .i64 K, .int .i64 M, .int .i64 O, .int .i64 S] 24 (0, 0))) :
    w.cell? ⟨h, 0, none⟩ = some (.int .i64 K) ∧ w.cell? ⟨h, 1, none⟩ = some (.int .i64 M) ∧ w.cell? ⟨h, 2, none⟩ = some (.int .i64 O) ∧ w.cell? ⟨h, 3, none⟩ = some (.int .i64 S) := by
  refine ⟨?_, ?_, ?_, ?_⟩ <;> (rw [cell_of_row _ _ _ _ _ _ hs]; rfl)

end Go.Proofs.Ytnjaofkieajnlab
