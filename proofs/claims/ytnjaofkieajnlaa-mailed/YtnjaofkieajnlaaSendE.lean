/- The document's own Send, where it refuses. -/
import Derived.Test.YtnjaofkieajnlaaSendR
namespace Go.Proofs.Ytnjaofkieajnlaa
open Go.RowKit

set_option maxRecDepth 100000 in
set_option maxHeartbeats 4000000 in
theorem rsend_bad (K M O S z : Int) (o : ByteArray) (w : World) (hmay : mayB K M O S = false) :
    Calls Try.prog 42 #[specV K M O S, .int .i64 z, .string o] w fun e w' => e = .returned (.tuple #[.slice none 0 0, .int .i64 1]) ∧ Below w.heap.size w w' := by
  have hma := fun W => may_below K M O S W
  rw [hmay] at hma
  have hbA : Below w.heap.size w (w.alloc (.cells #[.int .i64 K, .int .i64 M, .int .i64 O, .int .i64 S] 23)) := (Below.refl _ _).alloc (Nat.le_refl _) _
  go_enter Try.func42, Try.ntmps42
  go_wp2_with fail
  refine (hma _).mono ?_
  rintro e w1 ⟨rfl, hb1⟩
  have hbw1 := hbA.trans (hb1.mono hbA.size)
  go_wp2_with fail
  go_ret2
  exact ⟨rfl, hbw1⟩

set_option maxRecDepth 100000 in
set_option maxHeartbeats 4000000 in
theorem rsend_arg (K M O S z : Int) (o : ByteArray) (w : World) (hmay : mayB K M O S = true) (hz : z < 1 ∨ (1 ≤ z ∧ 16 < z)) :
    Calls Try.prog 42 #[specV K M O S, .int .i64 z, .string o] w fun e w' => e = .returned (.tuple #[.slice none 0 0, .int .i64 2]) ∧ Below w.heap.size w w' := by
  have hma := fun W => may_below K M O S W
  rw [hmay] at hma
  have hbA : Below w.heap.size w (w.alloc (.cells #[.int .i64 K, .int .i64 M, .int .i64 O, .int .i64 S] 23)) := (Below.refl _ _).alloc (Nat.le_refl _) _
  rcases hz with hz | hz
  all_goals
    go_enter Try.func42, Try.ntmps42
    go_wp2_with fail
    refine (hma _).mono ?_
    rintro e w1 ⟨rfl, hb1⟩
    have hbw1 := hbA.trans (hb1.mono hbA.size)
    go_wp2_with fail
    go_ret2
    exact ⟨rfl, hbw1⟩

set_option maxRecDepth 100000 in
set_option maxHeartbeats 4000000 in
theorem rsend_shape (K M O S z : Nat) (o : ByteArray) (w : World) (hmay : mayB K M O S = true) (hz : 1 ≤ z ∧ z ≤ 16) (ho : K * z < o.size + 2) (hol : o.size + 2 ≤ maxLen) :
    Calls Try.prog 42 #[specV K M O S, .int .i64 (z : Int), .string o] w fun e w' => e = .returned (.tuple #[.slice none 0 0, .int .i64 3]) ∧ Below w.heap.size w w' := by
  have hKK := mayB_true hmay
  have hK : 1 ≤ K ∧ K ≤ 20 := by omega
  clear hKK
  have hN2 : K * z ≤ 320 := Nat.le_trans (Nat.mul_le_mul hK.2 hz.2) (by decide)
  have hmul : (K : Int) * (z : Int) = ((K * z : Nat) : Int) := by simp
  have hm1 : 0 ≤ (K : Int) * (z : Int) := by rw [hmul]; omega
  have hm2 : (K : Int) * (z : Int) ≤ 320 := by rw [hmul]; omega
  have hc1 : (K : Int) * (z : Int) < (o.size : Int) + 2 := by rw [hmul]; omega
  unfold maxLen at hol
  clear hmul
  have hma := fun W => may_below K M O S W
  rw [hmay] at hma
  have hsp : (w.alloc (specB K M O S)).heap[w.heap.size]? = some (specB K M O S) := heap_alloc_new w _
  have hbA : Below w.heap.size w (w.alloc (specB K M O S)) := (Below.refl _ _).alloc (Nat.le_refl _) _
  go_enter Try.func42, Try.ntmps42
  go_wp2_with fail
  refine (hma _).mono ?_
  rintro e w1 ⟨rfl, hb1⟩
  have hs1 := block_on hsp hb1
  have hbw1 := hbA.trans (hb1.mono hbA.size)
  clear hsp hbA hb1 hma
  obtain ⟨c0, c1, c2, c3⟩ := spec_cells hs1
  have z1 : ¬ (z : Int) < 1 := by omega
  have z2 : ¬ (16 : Int) < (z : Int) := by omega
  go_wp2_with fail
  go_ret2
  exact ⟨rfl, hbw1⟩

end Go.Proofs.Ytnjaofkieajnlaa
