/- The program's Get, Put and Need. -/
import Derived.Test.YtnjaofkieajnlaaGreatPBox6
namespace Go.Proofs.YtnjaofkieajnlaaGreat
open Go.RowKit

/-- The box in a world that only new blocks part from w. -/
structure BoxIn (w w' : World) (p K n z : Nat) (of : Nat → Nat) (kn : Kn) : Prop where
  box : BoxAt w' p K n z of kn
  below : Below w.heap.size w w'

namespace BoxIn
variable {w w' w2 : World} {p K n z : Nat} {of : Nat → Nat} {kn : Kn}

theorem on (h : BoxIn w w' p K n z of kn) (hb : Below w'.heap.size w' w2) : BoxIn w w2 p K n z of kn := ⟨h.box.on (Nat.le_refl _) hb, h.below.trans (hb.mono h.below.size)⟩

theorem alloc (h : BoxIn w w' p K n z of kn) (o : Obj) : BoxIn w (w'.alloc o) p K n z of kn := h.on ((Below.refl _ _).alloc (Nat.le_refl _) o)

theorem drew (h : BoxIn w w' p K n z of kn) : BoxIn w w'.drew p K n z of kn := ⟨h.box, h.below.drew⟩

theorem setCell (h : BoxIn w w' p K n z of kn) (hp : p < w.heap.size) {a : Addr} (ha : w.heap.size ≤ a.block) (v : Value) : BoxIn w (w'.setCell a v) p K n z of kn :=
  ⟨h.box.block (heap_setCell_other _ _ _ _ (by omega)), h.below.setCell ha v⟩

/-- What Get reads of it. -/
theorem all (h : BoxIn w w' p K n z of kn) {i : Nat} (hi : i < 40) : w'.cell? ⟨p, 3 + i, none⟩ = some (.int .i64 (of i : Int)) ∧ w'.cell? ⟨p, 2, none⟩ = some (.int .i64 (z : Int)) ∧ BoxIn w w' p K n z of kn :=
  ⟨h.box.of_ hi, h.box.head.2.2, h⟩

end BoxIn

set_option maxRecDepth 100000 in
set_option maxHeartbeats 4000000 in
theorem bget_arg (p K n z : Nat) (i : Int) (of : Nat → Nat) (kn : Kn) (w : World) (hi : i < 0 ∨ (n : Int) ≤ i) (hbox : BoxAt w p K n z of kn) :
    Calls Tryz.prog 55 #[.pointer (some ⟨p, 0, none⟩), .int .i64 i] w fun e w' => e = .returned (.tuple #[.string ⟨#[]⟩, .int .i64 2]) ∧ w' = w := by
  obtain ⟨h0, h1, h2⟩ := hbox.head
  go_enter Tryz.func55, Tryz.ntmps55
  rcases hi with hi | hi
  · go_wp2_with fail
    go_ret2
    exact ⟨rfl, rfl⟩
  · by_cases h0 : i < 0
    · go_wp2_with fail
      go_ret2
      exact ⟨rfl, rfl⟩
    · go_wp2_with fail
      go_ret2
      exact ⟨rfl, rfl⟩

set_option maxRecDepth 100000 in
set_option maxHeartbeats 4000000 in
theorem bget_ok (p K n z i : Nat) (of : Nat → Nat) (kn : Kn) (w : World) (hK : K ≤ 20) (hkn : KnOk K z kn) (hof : ∀ i, of i < 2 ^ K) (hz : z ≤ 1000) (hn : n ≤ 40) (hi : i < n) (hbox : BoxAt w p K n z of kn) :
    Calls Tryz.prog 55 #[.pointer (some ⟨p, 0, none⟩), .int .i64 (i : Int)] w fun e w' => e = .returned (.tuple (if (left kn (of i) (zeroB z)).1 = 0 then #[.string (left kn (of i) (zeroB z)).2, .int .i64 0] else #[.string ⟨#[]⟩, .int .i64 5])) ∧ Below w.heap.size w w' := by
  obtain ⟨h0, h1, h2⟩ := hbox.head
  have hp := hbox.lt
  have hin : BoxIn w w p K n z of kn := ⟨hbox, Below.refl _ _⟩
  have hx : of i < 1048576 := Nat.lt_of_lt_of_le (hof i) (Nat.le_trans (Nat.pow_le_pow_right (by omega) hK) (by decide))
  have hoi := hbox.of_ (i := i) (by omega)
  have hi40 : i < 40 := by omega
  have i1 : (0 : Int) ≤ (i : Int) := by omega
  have i2 : (i : Int) < (n : Int) := by omega
  have i3 : (i : Int) < 40 := by omega
  have hlz : (left kn (of i) (zeroB z)).1 < 1048576 := (left_ok hkn (of i) (zeroB z) (zeroB_size z)).low 20 hK (by omega)
  go_enter Tryz.func55, Tryz.ntmps55
  go_wp2_with fail
  go_region_held3 (fun w' => w'.cell? ⟨p, 3 + i, none⟩ = some (.int .i64 (of i : Int)) ∧ w'.cell? ⟨p, 2, none⟩ = some (.int .i64 (z : Int)) ∧ BoxIn w w' p K n z of kn)
    (first | (exact BoxIn.all hin hi40) | (exact BoxIn.all hin.drew hi40) | (exact BoxIn.all hs2 hi40) | (exact BoxIn.all hs1 hi40) | (exact BoxIn.all (BoxIn.alloc (by go_split_ands; assumption) _) hi40) | (exact BoxIn.all (BoxIn.setCell (BoxIn.setCell (by go_split_ands; assumption) hp (by first | omega | (dsimp only; omega) | (simp; omega)) _) hp (by first | omega | (dsimp only; omega) | (simp; omega)) _) hi40) | go_keep)
    (first
      | (go_at_call 88; refine (bnoughts_any z _ hz).mono ?_; rintro e w1 ⟨rfl, hb1⟩; obtain ⟨k1, k2⟩ := bcell hb1; have hs1 : BoxIn w w1 p K n z of kn := BoxIn.on (by go_split_ands; assumption) hb1; have hz1 := hs1.below.size; (try (have y1 : w.heap.size < w1.heap.size := by have := hb1.size; simp at this; omega)))
      | (go_at_call 86; refine (without_any p K n z (of i) of kn (zeroB z) _ hK hkn hx (zeroB_size z) hz ?_).mono ?_; (go_split_ands; exact BoxIn.box (by assumption)); rintro e w2 ⟨rfl, hb2⟩; obtain ⟨m1, m2⟩ := bcell hb2; have hs2 : BoxIn w w2 p K n z of kn := BoxIn.on (by go_split_ands; assumption) hb2; have hz2 := hs2.below.size))
  all_goals
    by_cases h0 : (left kn (of i) (zeroB z)).1 = 0
    · have hne : (((left kn (of i) (zeroB z)).1 : Int) != 0) = false := by simp [bne]; exact h0
      have HE := hide h0
      clear h0
      go_wp2_with fail
      go_ret2
      exact ⟨by first | rfl | (rw [if_pos HE.out]; rfl), by first | exact (hs2.alloc _).below | exact ((hs2.setCell hp (by first | omega | (dsimp only; omega)) _).setCell hp (by first | omega | (dsimp only; omega)) _).below⟩
    · have hne : (((left kn (of i) (zeroB z)).1 : Int) != 0) = true := by simp [bne]; exact h0
      have HE := hide h0
      clear h0
      go_wp2_with fail
      go_ret2
      exact ⟨by first | rfl | (rw [if_neg HE.out]; rfl), by first | exact (hs2.alloc _).below | exact ((hs2.setCell hp (by first | omega | (dsimp only; omega)) _).setCell hp (by first | omega | (dsimp only; omega)) _).below⟩

set_option maxRecDepth 100000 in
set_option maxHeartbeats 4000000 in
theorem bneed_any (p K n z : Nat) (of : Nat → Nat) (kn : Kn) (w : World) (hK : K ≤ 20) (hbox : BoxAt w p K n z of kn) :
    Calls Tryz.prog 53 #[.pointer (some ⟨p, 0, none⟩)] w fun e w' => e = .returned (.int .i64 (openK kn K : Int)) ∧ w' = w := by
  obtain ⟨h0, h1, h2⟩ := hbox.head
  have hp := hbox.lt
  go_enter Tryz.func53, Tryz.ntmps53
  go_wp2_with fail
  go_loop [3, 4] (fun nv jv => ∃ j : Nat, j ≤ K ∧ jv = .int .i64 (j : Int) ∧ nv = .int .i64 (openK kn j : Int)) (fun _ jv => K - (intOf jv).toNat)
  case atStart => exact ⟨0, Nat.zero_le _, rfl, rfl⟩
  case round =>
    obtain ⟨j, hj, rfl, rfl⟩ := hrel
    have hle := openK_le kn j
    by_cases hlt : j < K
    · obtain ⟨c0, _⟩ := hbox.known (j := j) (by omega)
      have i1 : (0 : Int) ≤ (j : Int) := by omega
      have i2 : (j : Int) < 20 := by omega
      have hs := openK_succ kn j
      by_cases hz : (kn j).1 = 0
      · rw [if_pos hz] at hs
        have Hs := hide hs
        have b0 : (((kn j).1 : Int) == 0) = true := by rw [hz]; rfl
        clear hs hz
        go_wp2_with fail
        go_round
        case rel => exact ⟨j + 1, by omega, by go_num, by rw [Hs.out]; go_num⟩
        case measure => simp [intOf]; omega
      · rw [if_neg hz, Nat.add_zero] at hs
        have Hs := hide hs
        have b0 : (((kn j).1 : Int) == 0) = false := by simpa using hz
        clear hs
        go_wp2_with fail
        go_round
        case rel => exact ⟨j + 1, by omega, by go_num, by rw [Hs.out]; rfl⟩
        case measure => simp [intOf]; omega
    · have hjK : j = K := by omega
      subst hjK
      go_wp2_with fail
      go_ret
      exact ⟨rfl, rfl⟩

end Go.Proofs.YtnjaofkieajnlaaGreat
