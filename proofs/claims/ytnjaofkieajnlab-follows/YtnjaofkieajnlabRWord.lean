/- What the document's own Word does: the data, and the spare pieces behind them. -/
import Derived.Test.YtnjaofkieajnlabSpare
namespace Go.Proofs.Ytnjaofkieajnlab
open Go.RowKit

theorem owns_apart {w : World} {b1 b2 : Nat} {e1 e2 : TypeId} {v1 v2 : Value} {n1 n2 : Nat} {xs1 xs2 : List Value} (h1 : w.ownsRow b1 e1 1 v1 n1 xs1) (h2 : w.ownsRow b2 e2 1 v2 n2 xs2) (hne : e1 ≠ e2) : ∀ k, v1.ownBlock = some k → v2.ownBlock ≠ some k := by
  intro k k1 k2
  obtain ⟨c1, hc1⟩ := owns_block h1 k1
  obtain ⟨c2, hc2⟩ := owns_block h2 k2
  rw [hc1] at hc2
  simp at hc2
  exact hne hc2.2

/-- Rows of numbers stand while a row of texts grows. -/
theorem RowsAt.grown {w w' : World} {base g M b n : Nat} {rv : Nat → Value} {L : Nat → List Nat} {v : Value} {xs : List Value} (h : RowsAt w base g M rv L) (hv : w.ownsRow b 9 1 v n xs) (hg : w.grownBy w' v.ownBlock) : RowsAt w' base g M rv L :=
  ⟨h.row.of_block (hg.block g h.row.lt (fun e => owns_ne hv h.row (by decide) g e.symm rfl)), h.gb,
    fun i hi => owns_of_block (h.own i hi) (fun k e => hg.block k ((h.own i hi).lt k e).2 (fun e2 => owns_apart (h.own i hi) hv (by decide) k e e2.symm)), h.apart⟩

theorem owns_prefix {w : World} {base q n cap : Nat} {e : TypeId} {xs : List Value} (h : w.ownsRow base e 1 (.slice (some ⟨q, 0, none⟩) n cap) n xs) (m : Nat) (hm : m ≤ n) : w.ownsRow base e 1 (.slice (some ⟨q, 0, none⟩) m cap) m (xs.take m) := by
  have hl := h.1
  rcases h.2 with ⟨h0, _⟩ | ⟨g, c, cur, hv, hb, hg, hc, hmx, hs, ht⟩
  · simp at h0
  · simp at hv
    obtain ⟨rfl, rfl⟩ := hv
    refine ⟨by rw [List.length_take]; omega, Or.inr ⟨_, cap, cur, rfl, hb, hg, by omega, hmx, hs, ?_⟩⟩
    rw [← ht, List.take_take]
    congr 1
    omega

theorem owns_cap {w : World} {base q n cap : Nat} {e : TypeId} {xs : List Value} (h : w.ownsRow base e 1 (.slice (some ⟨q, 0, none⟩) n cap) n xs) : n ≤ cap ∧ cap ≤ maxLen := by
  rcases h.2 with ⟨h0, _⟩ | ⟨g, c, cur, hv, hb, hg, hc, hmx, hs, ht⟩
  · simp at h0
  · simp at hv
    obtain ⟨rfl, rfl⟩ := hv
    exact ⟨hc, hmx⟩

end Go.Proofs.Ytnjaofkieajnlab
