/- sameRows says yes to two tables of the same rows. -/
import Derived.Test.YtnjaofkieajnlaaGreatRRows
import Derived.BigQuiet
import Derived.Deep.QuietTactic
namespace Go.Proofs.YtnjaofkieajnlaaGreat
open Go.RowKit

/-- What a slice of numbers that is owned looks like. -/
theorem owns_view {w : World} {base : Nat} {v : Value} {l : List Nat} (h : w.ownsRow base 3 1 v l.length (numsV l)) :
    ∃ ao cap, v = .slice ao l.length cap ∧ ∀ k, k < l.length → ∃ q, ao = some ⟨q, 0, none⟩ ∧ w.cell? ⟨q, k, none⟩ = some (.int .i64 (l.getD k 0 : Int)) := by
  rcases owns_cells h with ⟨rfl, rfl⟩ | ⟨g, cap, rfl, _, hc⟩
  · exact ⟨none, 0, rfl, fun k hk => by simp at hk⟩
  · exact ⟨_, cap, rfl, fun k hk => ⟨g, rfl, hc k hk⟩⟩

set_option maxRecDepth 100000 in
set_option maxHeartbeats 2000000 in
theorem sameRows_yes (g1 g2 b1 b2 M : Nat) (rv1 rv2 : Nat → Value) (L : Nat → List Nat) (w : World) (hM : M ≤ 20) (hL : ∀ i, i < M → (L i).length ≤ 1000) (h1 : RowsAt w b1 g1 M rv1 L) (h2 : RowsAt w b2 g2 M rv2 L) :
    Calls Tryz.prog 19 #[.slice (some ⟨g1, 0, none⟩) M M, .slice (some ⟨g2, 0, none⟩) M M] w fun e w' => e = .returned (.bool true) ∧ Chg (fun _ => False) w w' := by
  go_enter Tryz.func19, Tryz.ntmps19
  go_wp2_with fail
  go_loopw [14] (fun i wr => ∃ k : Nat, k ≤ M ∧ i = .int .i64 k ∧ Chg (fun _ => False) w wr) (fun i _ => M - (intOf i).toNat)
  case atStart => exact ⟨0, Nat.zero_le _, rfl, Chg.refl _ _⟩
  case round =>
    obtain ⟨i, hi, rfl, hcg⟩ := hrel
    by_cases hiM : i < M
    · have r1 := h1.chg hcg (fun x => x) (fun _ _ _ x => x)
      have r2 := h2.chg hcg (fun x => x) (fun _ _ _ x => x)
      have c1 := r1.cell hiM
      have c2 := r2.cell hiM
      have o1 := r1.own i hiM
      have o2 := r2.own i hiM
      have hLi := hL i hiM
      have j1 : (0 : Int) ≤ (i : Int) := by omega
      have j2 : (i : Int) < (M : Int) := by omega
      obtain ⟨a1, p1, e1, v1⟩ := owns_view o1
      obtain ⟨a2, p2, e2, v2⟩ := owns_view o2
      rw [e1] at c1
      rw [e2] at c2
      clear r1 r2 o1 o2 e1 e2
      go_wp2_with fail
      go_quiet (fail)
      go_wp2_with fail
      have hcq := hcg.drewN nq
      clear hcg c1 c2 v1 v2
      go_loopw [33] (fun t wr => ∃ k : Nat, k ≤ (L i).length ∧ t = .int .i64 k ∧ Chg (fun _ => False) w wr) (fun t _ => (L i).length - (intOf t).toNat)
      case atStart => exact ⟨0, Nat.zero_le _, rfl, hcq⟩
      case round =>
        clear hcq
        obtain ⟨k, hk, rfl, hcg⟩ := hrel
        by_cases hkl : k < (L i).length
        · have r1 := h1.chg hcg (fun x => x) (fun _ _ _ x => x)
          have r2 := h2.chg hcg (fun x => x) (fun _ _ _ x => x)
          have c1 := r1.cell hiM
          have c2 := r2.cell hiM
          obtain ⟨a3, p3, e1, v1⟩ := owns_view (r1.own i hiM)
          obtain ⟨a4, p4, e2, v2⟩ := owns_view (r2.own i hiM)
          rw [e1] at c1
          rw [e2] at c2
          obtain ⟨q1, rfl, d1⟩ := v1 k hkl
          obtain ⟨q2, rfl, d2⟩ := v2 k hkl
          have k1 : (0 : Int) ≤ (k : Int) := by omega
          have k2 : (k : Int) < ((L i).length : Int) := by omega
          generalize (L i).getD k 0 = x at *
          clear r1 r2 v1 v2 e1 e2
          go_wp2_with fail
          go_quiet (fail)
          have hcq := hcg.drewN nq
          clear hcg c1 c2 d1 d2
          go_wp2
          go_roundw
          case rel => exact ⟨k + 1, by omega, by go_num, hcq⟩
          case measure => simp [intOf]; omega
        · go_wp2
          go_roundw
          case rel => exact ⟨i + 1, by omega, by go_num, hcg⟩
          case measure => simp [intOf]; omega
    · go_wp2
      go_ret
      exact ⟨rfl, hcg⟩

end Go.Proofs.YtnjaofkieajnlaaGreat
