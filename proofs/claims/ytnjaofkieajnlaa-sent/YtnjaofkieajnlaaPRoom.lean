/- The program's Room. -/
import Derived.Test.YtnjaofkieajnlaaPData
namespace Go.Proofs.Ytnjaofkieajnlaa
open Go.RowKit

set_option maxRecDepth 100000 in
set_option maxHeartbeats 4000000 in
theorem room_any (K z : Nat) (w : World) (hK : K ≤ 20) (hz : z ≤ 16) :
    Calls Try.prog 78 #[.int .i64 (K : Int), .int .i64 (z : Int)] w fun e w' => e = .returned (.int .i64 ((K : Int) * (z : Int) - 2)) ∧ w' = w := by
  have hN2 : K * z ≤ 320 := Nat.le_trans (Nat.mul_le_mul hK hz) (by decide)
  have hmul : (K : Int) * (z : Int) = ((K * z : Nat) : Int) := by simp
  have hm1 : 0 ≤ (K : Int) * (z : Int) := by rw [hmul]; omega
  have hm2 : (K : Int) * (z : Int) ≤ 320 := by rw [hmul]; omega
  clear hmul hN2
  go_enter Try.func78, Try.ntmps78
  go_wp2_with fail
  go_ret
  exact ⟨rfl, rfl⟩

end Go.Proofs.Ytnjaofkieajnlaa
