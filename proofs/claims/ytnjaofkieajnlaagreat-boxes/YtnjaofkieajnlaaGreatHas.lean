/- The document's answer: has, and its Rows; and sameRows, which holds two tables of rows against each other. -/
import Derived.Test.YtnjaofkieajnlaaGreatWRows
namespace Go.Proofs.YtnjaofkieajnlaaGreat
open Go.RowKit

/-- The cells of an owned row of numbers. -/
theorem owns_cells {w : World} {base : Nat} {v : Value} {l : List Nat} (h : w.ownsRow base 3 1 v l.length (numsV l)) : (v = .slice none 0 0 ∧ l = []) ∨
    ∃ g cap, v = .slice (some ⟨g, 0, none⟩) l.length cap ∧ l.length ≤ cap ∧ ∀ k, k < l.length → w.cell? ⟨g, k, none⟩ = some (.int .i64 (l.getD k 0 : Int)) := by
  rcases h.2 with ⟨rfl, hn⟩ | ⟨g, cap, cur, rfl, _, hg, hc, _, _, ht⟩
  · exact Or.inl ⟨rfl, by simpa using hn⟩
  · refine Or.inr ⟨g, cap, rfl, hc, fun k hk => ?_⟩
    rw [cell_of_row _ _ _ _ _ _ hg]
    have h1 : (numsV l)[k]? = some (.int .i64 (l.getD k 0 : Int)) := by simp [numsV, hk]
    rw [← ht, List.getElem?_take] at h1
    rw [if_pos (by omega)] at h1
    simpa using h1

set_option maxRecDepth 100000 in
set_option maxHeartbeats 1000000 in
theorem has_any (v : Value) (l : List Nat) (n base : Nat) (w : World) (hl : l.length ≤ 1000000) (hown : w.ownsRow base 3 1 v l.length (numsV l)) :
    Calls Tryz.prog 103 #[v, .int .i64 (n : Int)] w fun e w' => e = .returned (.bool (decide (n ∈ l))) ∧ w' = w := by
  rcases owns_cells hown with ⟨rfl, rfl⟩ | ⟨g, cap, rfl, hcap, hc⟩
  · clear hown
    go_enter Tryz.func103, Tryz.ntmps103
    go_wp2
    refine wp_loop_rounds 1 ?_
    rw [rounds_succ]
    go_wp2
    go_ret
    exact ⟨ret_bool (by simp), rfl⟩
  · clear hown
    go_enter Tryz.func103, Tryz.ntmps103
    go_wp2
    go_loop [9] (fun i => ∃ k : Nat, k ≤ l.length ∧ i = .int .i64 k ∧ n ∉ l.take k) (fun i => l.length - (intOf i).toNat)
    case atStart => exact ⟨0, Nat.zero_le _, rfl, by simp⟩
    case round =>
      obtain ⟨k, hk, rfl, hno⟩ := hrel
      by_cases hlt : k < l.length
      · have hcell := hc k hlt
        have hget : l.getD k 0 = l[k] := by simp [hlt]
        have htk : l.take (k + 1) = l.take k ++ [l[k]] := by rw [List.take_succ_eq_append_getElem hlt]
        rw [hget] at hcell
        clear hc hget
        generalize hx : l[k] = x at *
        have Hx := hide hx
        have Ht := hide htk
        clear hx htk
        by_cases he : x = n
        · have he2 : ((x : Int) == (n : Int)) = true := by simp [he]
          have He := hide he
          clear he
          go_wp2
          go_ret
          exact ⟨ret_bool (by simp; rw [← He.out, ← Hx.out]; exact List.getElem_mem hlt), rfl⟩
        · have he2 : ((x : Int) == (n : Int)) = false := by simp; omega
          go_wp2
          go_round
          case rel => exact ⟨k + 1, by omega, by go_num, by rw [Ht.out]; simp [hno]; omega⟩
          case measure => simp [intOf]; omega
      · have hall : l.take k = l := List.take_of_length_le (by omega)
        rw [hall] at hno
        go_wp2
        go_ret
        exact ⟨ret_bool (by simp), rfl⟩

end Go.Proofs.YtnjaofkieajnlaaGreat
