/- The makers of the statements without the document's answer: pick, spec, pieces, word. -/
import Derived.Test.YtnjaofkieajnlabFits
import Derived.Test.YtnjaofkieajnlabFitMaths
namespace Go.Proofs.Ytnjaofkieajnlab
open Go.RowKit

/-- The number that a raw one speaks of. -/
def rawOf (c : Int) : Int := if c < 0 then -(c + 1) else c

theorem rawOf_bd (c : Int) (h1 : -9223372036854775808 ≤ c) (h2 : c ≤ 9223372036854775807) : 0 ≤ rawOf c ∧ rawOf c ≤ 9223372036854775807 := by
  unfold rawOf; split <;> omega

set_option maxRecDepth 100000 in
set_option maxHeartbeats 400000 in
theorem pick_any (c n : Int) (w : World) (h1 : -9223372036854775808 ≤ c) (h2 : c ≤ 9223372036854775807) (hn : 1 ≤ n) :
    Calls Try.prog 13 #[.int .i64 c, .int .i64 n] w fun e w' => e = .returned (.int .i64 (rawOf c % n)) ∧ w' = w := by
  by_cases hc : c < 0
  · have hr : rawOf c = -(c + 1) := by simp [rawOf, hc]
    rw [hr]
    clear hr
    go_enter Try.func13, Try.ntmps13
    go_wp2
    go_ret
    exact ⟨ret_int (by rw [← Int.neg_tmod, Int.tmod_eq_emod_of_nonneg (by omega)]), rfl⟩
  · have hr : rawOf c = c := by simp [rawOf, hc]
    rw [hr]
    clear hr
    go_enter Try.func13, Try.ntmps13
    go_wp2
    go_ret
    exact ⟨rfl, rfl⟩

/-- A specification that may be, and a size. -/
structure SpecOk (K M O S z : Nat) : Prop where
  hK : 1 ≤ K ∧ K ≤ 20
  hM : 1 ≤ M ∧ M ≤ 20
  hO : 1 ≤ O ∧ O ≤ M
  hS : S ≤ 65535
  hz : 1 ≤ z ∧ z ≤ 16

/-- The same of whole numbers. -/
structure SpecOkI (K M O S z : Int) : Prop where
  hK : 1 ≤ K ∧ K ≤ 20
  hM : 1 ≤ M ∧ M ≤ 20
  hO : 1 ≤ O ∧ O ≤ M
  hS : 0 ≤ S ∧ S ≤ 65535
  hz : 1 ≤ z ∧ z ≤ 16

set_option maxRecDepth 100000 in
set_option maxHeartbeats 2000000 in
theorem spec_int (c : Int) (w : World) (h1 : -9223372036854775808 ≤ c) (h2 : c ≤ 9223372036854775807) :
    Calls Try.prog 8 #[.int .i64 c] w fun e w' => ∃ K M O S z : Int, e = .returned (.tuple #[specV K M O S, .int .i64 z]) ∧ SpecOkI K M O S z ∧ Below w.heap.size w w' := by
  have hb := rawOf_bd c h1 h2
  generalize hr : rawOf c = r at *
  have Hr := hide hr
  clear hr
  have hv0 : 0 ≤ r % 1099511627776 ∧ r % 1099511627776 < 1099511627776 := by omega
  go_enter Try.func8, Try.ntmps8
  go_wp2_with fail
  refine (pick_any c 1099511627776 _ h1 h2 (by omega)).mono ?_
  rintro e w1 ⟨rfl, rfl⟩
  rw [Hr.out]
  generalize r % 1099511627776 = v at *
  have m1 : 0 ≤ v / 400 % (1 + v / 20 % 20) := Int.emod_nonneg _ (by omega)
  have m2 : v / 400 % (1 + v / 20 % 20) < 1 + v / 20 % 20 := Int.emod_lt_of_pos _ (by omega)
  by_cases t1 : v / 400 / 20 % 2 = 0
  · have t1b : (v / 400 / 20 % 2 == 0) = true := by simp [t1]
    by_cases t2 : 2 < 1 + v / 20 % 20
    · go_wp2
      refine bodyPost_ret (v := .tuple #[specV (1 + v % 20) (1 + v / 20 % 20) (1 + v / 400 % 3) (v / 400 / 40 % 65536), .int .i64 (1 + v / 400 / 7 % 16)]) (by simp [results, Try.results8, go_sem]) rfl ⟨_, _, _, _, _, rfl, ⟨by omega, by omega, by omega, by omega, by omega⟩, ?_⟩
      exact ((Below.refl _ _).alloc (Nat.le_refl _) _).alloc (by simp) _
    · go_wp2
      refine bodyPost_ret (v := .tuple #[specV (1 + v % 20) (1 + v / 20 % 20) (1 + v / 400 % (1 + v / 20 % 20)) (v / 400 / 40 % 65536), .int .i64 (1 + v / 400 / 7 % 16)]) (by simp [results, Try.results8, go_sem]) rfl ⟨_, _, _, _, _, rfl, ⟨by omega, by omega, by omega, by omega, by omega⟩, ?_⟩
      exact ((Below.refl _ _).alloc (Nat.le_refl _) _).alloc (by simp) _
  · have t1b : (v / 400 / 20 % 2 == 0) = false := by simp; exact t1
    go_wp2
    refine bodyPost_ret (v := .tuple #[specV (1 + v % 20) (1 + v / 20 % 20) (1 + v / 400 % (1 + v / 20 % 20)) (v / 400 / 40 % 65536), .int .i64 (1 + v / 400 / 7 % 16)]) (by simp [results, Try.results8, go_sem]) rfl ⟨_, _, _, _, _, rfl, ⟨by omega, by omega, by omega, by omega, by omega⟩, ?_⟩
    exact ((Below.refl _ _).alloc (Nat.le_refl _) _).alloc (by simp) _

theorem spec_any (c : Int) (w : World) (h1 : -9223372036854775808 ≤ c) (h2 : c ≤ 9223372036854775807) :
    Calls Try.prog 8 #[.int .i64 c] w fun e w' => ∃ K M O S z : Nat, e = .returned (.tuple #[specV K M O S, .int .i64 (z : Int)]) ∧ SpecOk K M O S z ∧ Below w.heap.size w w' := by
  refine (spec_int c w h1 h2).mono ?_
  rintro e w' ⟨K, M, O, S, z, rfl, h, hb⟩
  obtain ⟨hK, hM, hO, hS, hz⟩ := h
  obtain ⟨k, rfl⟩ := Int.eq_ofNat_of_zero_le (show 0 ≤ K by omega)
  obtain ⟨m, rfl⟩ := Int.eq_ofNat_of_zero_le (show 0 ≤ M by omega)
  obtain ⟨o, rfl⟩ := Int.eq_ofNat_of_zero_le (show 0 ≤ O by omega)
  obtain ⟨s, rfl⟩ := Int.eq_ofNat_of_zero_le (show 0 ≤ S by omega)
  obtain ⟨y, rfl⟩ := Int.eq_ofNat_of_zero_le (show 0 ≤ z by omega)
  exact ⟨k, m, o, s, y, rfl, ⟨by omega, by omega, by omega, by omega, by omega⟩, hb⟩

end Go.Proofs.Ytnjaofkieajnlab
