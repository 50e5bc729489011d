/- The document's own Mail: its errors. -/
import Derived.Test.YtnjaofkieajnlaaMailS
namespace Go.Proofs.Ytnjaofkieajnlaa
open Go.RowKit

set_option maxRecDepth 100000 in
set_option maxHeartbeats 4000000 in
theorem rmail_bad (K M O S z x : Int) (t : ByteArray) (w : World) (hmay : mayB K M O S = false) :
    Calls Try.prog 44 #[specV K M O S, .int .i64 z, .string t, .int .i64 x] w fun e w' => e = .returned (.tuple #[.slice none 0 0, .int .i64 1]) ∧ Below w.heap.size w w' := by
  have hma := fun W => may_below K M O S W
  rw [hmay] at hma
  go_enter Try.func44, Try.ntmps44
  go_wp2_with fail
  refine (hma _).mono ?_
  rintro e w1 ⟨rfl, hb1⟩
  have hbw1 : Below w.heap.size w w1 := ((Below.refl _ _).alloc (Nat.le_refl _) _).trans (hb1.mono (by simp))
  go_wp2_with fail
  go_ret2
  exact ⟨rfl, hbw1⟩

set_option maxRecDepth 100000 in
set_option maxHeartbeats 4000000 in
theorem rmail_arg (K M O S z x : Int) (t : ByteArray) (w : World) (hmay : mayB K M O S = true) (h : z < 1 ∨ 16 < z ∨ x < 0 ∨ 65535 < x) :
    Calls Try.prog 44 #[specV K M O S, .int .i64 z, .string t, .int .i64 x] w fun e w' => e = .returned (.tuple #[.slice none 0 0, .int .i64 2]) ∧ Below w.heap.size w w' := by
  have hma := fun W => may_below K M O S W
  rw [hmay] at hma
  have hor : z < 1 ∨ (¬ z < 1 ∧ 16 < z) ∨ (¬ z < 1 ∧ ¬ 16 < z ∧ x < 0) ∨ (¬ z < 1 ∧ ¬ 16 < z ∧ ¬ x < 0 ∧ 65535 < x) := by omega
  clear h hmay
  go_enter Try.func44, Try.ntmps44
  go_wp2_with fail
  refine (hma _).mono ?_
  rintro e w1 ⟨rfl, hb1⟩
  have hbw1 : Below w.heap.size w w1 := ((Below.refl _ _).alloc (Nat.le_refl _) _).trans (hb1.mono (by simp))
  clear hma hb1
  rcases hor with h1 | ⟨h1, h2⟩ | ⟨h1, h2, h3⟩ | ⟨h1, h2, h3, h4⟩
  all_goals
    go_wp2_with fail
    go_ret2
    exact ⟨rfl, hbw1⟩

set_option maxRecDepth 100000 in
set_option maxHeartbeats 4000000 in
theorem rmail_shape (K M O S z : Nat) (t : ByteArray) (x : Nat) (w : World) (hmay : mayB K M O S = true) (hz : 1 ≤ z ∧ z ≤ 16) (hx : x ≤ 65535) (ht : t.size ≤ 1125899906842624) (h : K * z < 3 ∨ (3 ≤ K * z ∧ 20 < partsN t (K * z - 2))) :
    Calls Try.prog 44 #[specV K M O S, .int .i64 (z : Int), .string t, .int .i64 (x : Int)] w fun e w' => e = .returned (.tuple #[.slice none 0 0, .int .i64 3]) ∧ Below w.heap.size w w' := by
  have hKK := mayB_true hmay
  have hK : 1 ≤ K ∧ K ≤ 20 := by omega
  have hma := fun W => may_below K M O S W
  rw [hmay] at hma
  have hN2 : K * z ≤ 320 := Nat.le_trans (Nat.mul_le_mul hK.2 hz.2) (by decide)
  have hN1 : 1 ≤ K * z := Nat.mul_pos (by omega) (by omega)
  have hmul : (K : Int) * (z : Int) = ((K * z : Nat) : Int) := by simp
  have hm1 : 1 ≤ (K : Int) * (z : Int) := by rw [hmul]; omega
  have hm2 : (K : Int) * (z : Int) ≤ 320 := by rw [hmul]; omega
  have hsp : (w.alloc (specB K M O S)).heap[w.heap.size]? = some (specB K M O S) := heap_alloc_new w _
  have hbA : Below w.heap.size w (w.alloc (specB K M O S)) := (Below.refl _ _).alloc (Nat.le_refl _) _
  have z1 : ¬ (z : Int) < 1 := by omega
  have z2 : ¬ (16 : Int) < (z : Int) := by omega
  have o1 : ¬ (x : Int) < 0 := by omega
  have o2 : ¬ (65535 : Int) < (x : Int) := by omega
  rcases h with h | ⟨h3, h⟩
  · have n1 : (K : Int) * (z : Int) - 2 < 1 := by rw [hmul]; omega
    clear hmul h hmay hKK
    go_enter Try.func44, Try.ntmps44
    go_wp2_with fail
    refine (hma _).mono ?_
    rintro e w1 ⟨rfl, hb1⟩
    have hs1 := block_on hsp hb1
    have hbw1 := hbA.trans (hb1.mono hbA.size)
    clear hsp hbA hb1 hma
    obtain ⟨c0, c1, c2, c3⟩ := spec_cells hs1
    go_wp2_with fail
    go_ret2
    exact ⟨rfl, hbw1⟩
  · obtain ⟨n, hn⟩ : ∃ n, n = K * z - 2 := ⟨_, rfl⟩
    have hmul2 : (K : Int) * (z : Int) - 2 = (n : Int) := by rw [hmul]; omega
    have n1 : ¬ (n : Int) < 1 := by omega
    have hpa := fun W => rparts_any t n W (by omega) ht
    rw [← hn] at h
    have p1 : (20 : Int) < (partsN t n : Int) := by omega
    have Hmul := hide hmul2
    clear hmul hmul2 h hmay hKK hn h3
    generalize partsN t n = c at *
    go_enter Try.func44, Try.ntmps44
    go_wp2_with fail
    refine (hma _).mono ?_
    rintro e w1 ⟨rfl, hb1⟩
    have hs1 := block_on hsp hb1
    have hbw1 := hbA.trans (hb1.mono hbA.size)
    clear hsp hbA hb1 hma
    obtain ⟨c0, c1, c2, c3⟩ := spec_cells hs1
    go_upto_region 7 with fail
    rw [Hmul.out]
    clear c0 c1 c2 c3
    go_wp2_with fail
    refine (hpa _).mono ?_
    rintro e W1 ⟨rfl, rfl⟩
    go_wp2_with fail
    go_ret2
    exact ⟨rfl, hbw1⟩

end Go.Proofs.Ytnjaofkieajnlaa
