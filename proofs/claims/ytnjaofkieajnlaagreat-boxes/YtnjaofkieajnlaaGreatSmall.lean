/- The small functions' contracts: drawing a number, making a drawer, whether a specification may be. -/
import Derived.Test.YtnjaofkieajnlaaGreatProg
import Derived.WalkKit
import Derived.WalkSpells
import Derived.WalkLawsBesides
import Derived.BigQuiet
namespace Go.Proofs.YtnjaofkieajnlaaGreat
open Go.RowKit

theorem bcell {W w1 : World} (hb : Below W.heap.size W w1) : (∀ b o, b < W.heap.size → w1.cell? ⟨b, o, none⟩ = W.cell? ⟨b, o, none⟩) ∧ (∀ b o, b < W.heap.size → w1.frozen? ⟨b, o, none⟩ = W.frozen? ⟨b, o, none⟩) :=
  ⟨fun b o h => hb.cell (p := ⟨b, o, none⟩) h, fun b o h => hb.frozen (p := ⟨b, o, none⟩) h⟩

theorem ret_bool {a b : Bool} (h : a = b) : Ending.returned (.bool a) = .returned (.bool b) := by rw [h]

theorem ret_int {k : IntKind} {a b : Int} (h : a = b) : Ending.returned (.int k a) = .returned (.int k b) := by rw [h]

/-- A specification as a value. -/
abbrev specV (K M O S : Int) : Value := .agg #[.int .i64 K, .int .i64 M, .int .i64 O, .int .i64 S]

set_option maxRecDepth 100000 in
set_option maxHeartbeats 400000 in
theorem from_any (s : Int) (w : World) :
    Calls Tryz.prog 112 #[.int .i64 s] w fun e w' => e = .returned (.pointer (some ⟨w.heap.size, 0, none⟩)) ∧ w' = w.alloc (.cells #[.int .i64 s] 172) := by
  go_enter Tryz.func112, Tryz.ntmps112
  go_wp2
  go_ret
  exact ⟨rfl, rfl⟩

set_option maxRecDepth 100000 in
set_option maxHeartbeats 400000 in
theorem below_any (b : Nat) (x n : Int) (w : World) (hx : 0 ≤ x ∧ x ≤ 65536) (hn : 1 ≤ n ∧ n ≤ 20) (hc : w.cell? ⟨b, 0, none⟩ = some (.int .i64 x)) (hf : w.frozen? ⟨b, 0, none⟩ = false) :
    Calls Tryz.prog 123 #[.pointer (some ⟨b, 0, none⟩), .int .i64 n] w fun e w' => e = .returned (.int .i64 ((75 * x + 74) % 65537 % n)) ∧ w' = w.setCell ⟨b, 0, none⟩ (.int .i64 ((75 * x + 74) % 65537)) := by
  go_enter Tryz.func123, Tryz.ntmps123
  go_wp2
  go_ret
  exact ⟨rfl, rfl⟩

/-- May a specification be? -/
def mayB (K M O S : Int) : Bool := decide (1 ≤ K ∧ K ≤ 20 ∧ 1 ≤ M ∧ M ≤ 20 ∧ 1 ≤ O ∧ O ≤ M ∧ 0 ≤ S ∧ S ≤ 65535)

theorem mayB_true {K M O S : Int} (h : mayB K M O S = true) : 1 ≤ K ∧ K ≤ 20 ∧ 1 ≤ M ∧ M ≤ 20 ∧ 1 ≤ O ∧ O ≤ M ∧ 0 ≤ S ∧ S ≤ 65535 := by
  simpa [mayB] using h

theorem mayB_cases (K M O S : Int) : (mayB K M O S = true ∧ 1 ≤ K ∧ K ≤ 20 ∧ 1 ≤ M ∧ M ≤ 20 ∧ 1 ≤ O ∧ O ≤ M ∧ 0 ≤ S ∧ S ≤ 65535) ∨
    (mayB K M O S = false ∧ (K < 1 ∨ (1 ≤ K ∧ 20 < K) ∨ (1 ≤ K ∧ K ≤ 20 ∧ M < 1) ∨ (1 ≤ K ∧ K ≤ 20 ∧ 1 ≤ M ∧ 20 < M) ∨ (1 ≤ K ∧ K ≤ 20 ∧ 1 ≤ M ∧ M ≤ 20 ∧ O < 1) ∨ (1 ≤ K ∧ K ≤ 20 ∧ 1 ≤ M ∧ M ≤ 20 ∧ 1 ≤ O ∧ M < O) ∨
      (1 ≤ K ∧ K ≤ 20 ∧ 1 ≤ M ∧ M ≤ 20 ∧ 1 ≤ O ∧ O ≤ M ∧ S < 0) ∨ (1 ≤ K ∧ K ≤ 20 ∧ 1 ≤ M ∧ M ≤ 20 ∧ 1 ≤ O ∧ O ≤ M ∧ 0 ≤ S ∧ 65535 < S))) := by
  unfold mayB
  by_cases h : 1 ≤ K ∧ K ≤ 20 ∧ 1 ≤ M ∧ M ≤ 20 ∧ 1 ≤ O ∧ O ≤ M ∧ 0 ≤ S ∧ S ≤ 65535
  · exact Or.inl ⟨by simp [h], h⟩
  · refine Or.inr ⟨decide_eq_false h, ?_⟩
    omega

set_option maxRecDepth 100000 in
set_option maxHeartbeats 1000000 in
theorem maybe_any (K M O S : Int) (w : World) :
    Calls Tryz.prog 111 #[specV K M O S] w fun e w' => e = .returned (.bool (mayB K M O S)) ∧ w' = w.alloc (.cells #[.int .i64 K, .int .i64 M, .int .i64 O, .int .i64 S] 25) := by
  rcases mayB_cases K M O S with ⟨hm, h⟩ | ⟨hm, h | h | h | h | h | h | h | h⟩ <;> (rw [hm]; clear hm)
  all_goals
    go_enter Tryz.func111, Tryz.ntmps111
    go_wp2
    go_ret
    first | exact ⟨rfl, rfl⟩ | exact ⟨ret_bool (by simp; omega), rfl⟩

set_option maxRecDepth 100000 in
set_option maxHeartbeats 1000000 in
theorem may_any (K M O S : Int) (w : World) :
    Calls Tryz.prog 24 #[specV K M O S] w fun e w' => e = .returned (.bool (mayB K M O S)) ∧ w' = w.alloc (.cells #[.int .i64 K, .int .i64 M, .int .i64 O, .int .i64 S] 25) := by
  rcases mayB_cases K M O S with ⟨hm, h⟩ | ⟨hm, h | h | h | h | h | h | h | h⟩ <;> (rw [hm]; clear hm)
  all_goals
    go_enter Tryz.func24, Tryz.ntmps24
    go_wp2
    go_ret
    first | exact ⟨rfl, rfl⟩ | exact ⟨ret_bool (by simp; omega), rfl⟩

end Go.Proofs.YtnjaofkieajnlaaGreat
