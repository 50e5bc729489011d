/- The small functions of the program's boxes: noughts and the highest data. -/
import Derived.Test.YtnjaofkieajnlaaGreatSum
import Derived.Test.YtnjaofkieajnlaaGreatBits
import Derived.Test.YtnjaofkieajnlaaGreatKnMaths
namespace Go.Proofs.YtnjaofkieajnlaaGreat
open Go.RowKit

theorem shl_small (x : Nat) (h : x < 40) : RowKit.wrap64 (2 ^ x) = ((2 ^ x : Nat) : Int) ∧ IntKind.i64.wrap (2 ^ x) = ((2 ^ x : Nat) : Int) := by
  have h1 : 2 ^ x < 1099511627776 := Nat.lt_of_lt_of_le (Nat.pow_lt_pow_right (by omega) h) (by decide)
  have h2 : (2 : Int) ^ x = ((2 ^ x : Nat) : Int) := by rw [Int.natCast_pow]; rfl
  rw [h2]
  generalize 2 ^ x = y at *
  constructor
  · unfold RowKit.wrap64
    omega
  · exact wrapNat _ (by omega)

theorem and_unit (x j : Nat) : x &&& 2 ^ j = if x.testBit j then 2 ^ j else 0 := by
  apply Nat.eq_of_testBit_eq
  intro i
  rw [Nat.testBit_and, Nat.testBit_two_pow]
  by_cases e : j = i
  · subst e
    cases h : x.testBit j <;> simp
  · cases h : x.testBit j <;> simp [e]

/-- Whether a number has a bit, as the program asks. -/
theorem bit_eq (x j : Nat) (hx : x < 1099511627776) (hj : j < 40) : (bits .and .i64 (x : Int) (RowKit.wrap64 (2 ^ j)) == 0) = !(x.testBit j) ∧ (bits .and .i64 (x : Int) (IntKind.i64.wrap (2 ^ j)) == 0) = !(x.testBit j) := by
  obtain ⟨h1, h2⟩ := shl_small j hj
  have h3 : 2 ^ j < 1099511627776 := Nat.lt_of_lt_of_le (Nat.pow_lt_pow_right (by omega) hj) (by decide)
  rw [h1, h2, i64_and_nat x (2 ^ j) (by omega) (by omega), and_unit]
  have h0 : 0 < 2 ^ j := Nat.two_pow_pos j
  cases x.testBit j
  · simp
  · have : ¬ ((2 ^ j : Nat) : Int) = 0 := by omega
    refine ⟨?_, ?_⟩ <;> simp only [if_true] <;> exact beq_eq_false_iff_ne.2 this

theorem bit_ne (x j : Nat) (hx : x < 1099511627776) (hj : j < 40) : (bits .and .i64 (x : Int) (RowKit.wrap64 (2 ^ j)) != 0) = x.testBit j ∧ (bits .and .i64 (x : Int) (IntKind.i64.wrap (2 ^ j)) != 0) = x.testBit j := by
  obtain ⟨h1, h2⟩ := bit_eq x j hx hj
  unfold bne
  rw [h1, h2, Bool.not_not]
  exact ⟨rfl, rfl⟩

set_option maxRecDepth 100000 in
set_option maxHeartbeats 1000000 in
theorem bnoughts_any (z : Nat) (w : World) (hz : z ≤ 1000) :
    Calls Tryz.prog 88 #[.int .i64 (z : Int)] w fun e w' => e = .returned (.string (zeroB z)) ∧ Below w.heap.size w w' := by
  have hmk := run_make_bytes z (by omega)
  have hrow : byteRow (w.alloc (.cells (madeCells #[.int .u8 0] z) 5)) w.heap.size z (byteAt (zeroB z)) := (World.rowIs_made w (.int .u8 0) z 5).congr (fun i _ => by rw [byteAt_zeroB]; rfl)
  have hc : ∀ i, i < z → (w.alloc (.cells (madeCells #[.int .u8 0] z) 5)).cell? ⟨w.heap.size, 0 + i, none⟩ = some (.int .u8 ((numsB (zeroB z)).getD i 0)) := fun i hi => by
    rw [Nat.zero_add, numsB_getD]; exact hrow.cell hi
  have hcv := run_convert_bytes_arg (P := Tryz.prog) (w.alloc (.cells (madeCells #[.int .u8 0] z) 5)) 106 5 Tryz.underlying106 Tryz.underlying5 w.heap.size 0 z z (numsB (zeroB z)) (by rw [numsB_length]; exact zeroB_size z) hc 9 Tryz.underlying9
  rw [strOfNums_numsB] at hcv
  clear hc hrow
  go_enter Tryz.func88, Tryz.ntmps88
  go_wp2
  go_ret
  exact ⟨rfl, (Below.refl _ _).alloc (Nat.le_refl _) _⟩

set_option maxRecDepth 100000 in
set_option maxHeartbeats 1000000 in
theorem highest_any (x : Nat) (w : World) (hx : x < 1048576) (h0 : x ≠ 0) :
    Calls Tryz.prog 87 #[.int .i64 (x : Int)] w fun e w' => e = .returned (.int .i64 (x.log2 : Int)) ∧ w' = w := by
  have htop := top_of h0
  have h20 : x.log2 < 20 := (Nat.log2_lt h0).2 hx
  go_enter Tryz.func87, Tryz.ntmps87
  go_wp2
  go_loop [3] (fun jv => ∃ j : Nat, j < 20 ∧ jv = .int .i64 (j : Int) ∧ x.log2 ≤ j) (fun jv => (intOf jv).toNat)
  case atStart => exact ⟨19, by omega, rfl, by omega⟩
  case round =>
    obtain ⟨j, hj, rfl, hle⟩ := hrel
    obtain ⟨b1, b2⟩ := bit_ne x j (by omega) (by omega)
    clear b2
    by_cases hj0 : j = 0
    · subst hj0
      have e : x.log2 = 0 := by omega
      clear b1
      go_wp2
      go_ret
      exact ⟨rfl, rfl⟩
    · have hpos : (0 : Int) < (j : Int) := by omega
      by_cases e : x.log2 = j
      · have ht : x.testBit j = true := by rw [← e]; exact htop.1
        rw [ht] at b1
        go_wp2
        go_ret
        exact ⟨rfl, rfl⟩
      · have ht : x.testBit j = false := htop.2 j (by omega)
        rw [ht] at b1
        go_wp2
        go_round
        case rel => exact ⟨j - 1, by omega, by go_num, by omega⟩
        case measure => simp [intOf]; omega

end Go.Proofs.YtnjaofkieajnlaaGreat
