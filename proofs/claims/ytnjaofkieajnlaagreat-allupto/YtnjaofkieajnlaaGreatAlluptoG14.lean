/- Texts of the proof, part 15. -/
import Derived.Test.YtnjaofkieajnlaaGreatAlluptoG11
import Derived.Test.YtnjaofkieajnlaaGreatAlluptoG12
import Derived.Test.YtnjaofkieajnlaaGreatAlluptoG13

/- The program's Get, Put and Need. -/
namespace Go.Proofs.YtnjaofkieajnlaaGreat
open Go.RowKit

/-- The box in a world that only new blocks part from w. -/
structure BoxIn (w w' : World) (p K n z : Nat) (of : Nat → Nat) (kn : Kn) : Prop where
  box : BoxAt w' p K n z of kn
  below : Below w.heap.size w w'

namespace BoxIn
variable {w w' w2 : World} {p K n z : Nat} {of : Nat → Nat} {kn : Kn}

theorem on (h : BoxIn w w' p K n z of kn) (hb : Below w'.heap.size w' w2) : BoxIn w w2 p K n z of kn := ⟨h.box.on (Nat.le_refl _) hb, h.below.trans (hb.mono h.below.size)⟩

theorem alloc (h : BoxIn w w' p K n z of kn) (o : Obj) : BoxIn w (w'.alloc o) p K n z of kn := h.on ((Below.refl _ _).alloc (Nat.le_refl _) o)

theorem drew (h : BoxIn w w' p K n z of kn) : BoxIn w w'.drew p K n z of kn := ⟨h.box, h.below.drew⟩

theorem setCell (h : BoxIn w w' p K n z of kn) (hp : p < w.heap.size) {a : Addr} (ha : w.heap.size ≤ a.block) (v : Value) : BoxIn w (w'.setCell a v) p K n z of kn :=
  ⟨h.box.block (heap_setCell_other _ _ _ _ (by omega)), h.below.setCell ha v⟩

/-- What Get reads of it. -/
theorem all (h : BoxIn w w' p K n z of kn) {i : Nat} (hi : i < 40) : w'.cell? ⟨p, 3 + i, none⟩ = some (.int .i64 (of i : Int)) ∧ w'.cell? ⟨p, 2, none⟩ = some (.int .i64 (z : Int)) ∧ BoxIn w w' p K n z of kn :=
  ⟨h.box.of_ hi, h.box.head.2.2, h⟩

end BoxIn

set_option maxRecDepth 100000 in
set_option maxHeartbeats 4000000 in
theorem bget_arg (p K n z : Nat) (i : Int) (of : Nat → Nat) (kn : Kn) (w : World) (hi : i < 0 ∨ (n : Int) ≤ i) (hbox : BoxAt w p K n z of kn) :
    Calls Tryz.prog 55 #[.pointer (some ⟨p, 0, none⟩), .int .i64 i] w fun e w' => e = .returned (.tuple #[.string ⟨#[]⟩, .int .i64 2]) ∧ w' = w := by
  obtain ⟨h0, h1, h2⟩ := hbox.head
  go_enter Tryz.func55, Tryz.ntmps55
  rcases hi with hi | hi
  · go_wp2_with fail
    go_ret2
    exact ⟨rfl, rfl⟩
  · by_cases h0 : i < 0
    · go_wp2_with fail
      go_ret2
      exact ⟨rfl, rfl⟩
    · go_wp2_with fail
      go_ret2
      exact ⟨rfl, rfl⟩

set_option maxRecDepth 100000 in
set_option maxHeartbeats 4000000 in
theorem bget_ok (p K n z i : Nat) (of : Nat → Nat) (kn : Kn) (w : World) (hK : K ≤ 20) (hkn : KnOk K z kn) (hof : ∀ i, of i < 2 ^ K) (hz : z ≤ 1000) (hn : n ≤ 40) (hi : i < n) (hbox : BoxAt w p K n z of kn) :
    Calls Tryz.prog 55 #[.pointer (some ⟨p, 0, none⟩), .int .i64 (i : Int)] w fun e w' => e = .returned (.tuple (if (left kn (of i) (zeroB z)).1 = 0 then #[.string (left kn (of i) (zeroB z)).2, .int .i64 0] else #[.string ⟨#[]⟩, .int .i64 5])) ∧ Below w.heap.size w w' := by
  obtain ⟨h0, h1, h2⟩ := hbox.head
  have hp := hbox.lt
  have hin : BoxIn w w p K n z of kn := ⟨hbox, Below.refl _ _⟩
  have hx : of i < 1048576 := Nat.lt_of_lt_of_le (hof i) (Nat.le_trans (Nat.pow_le_pow_right (by omega) hK) (by decide))
  have hoi := hbox.of_ (i := i) (by omega)
  have hi40 : i < 40 := by omega
  have i1 : (0 : Int) ≤ (i : Int) := by omega
  have i2 : (i : Int) < (n : Int) := by omega
  have i3 : (i : Int) < 40 := by omega
  have hlz : (left kn (of i) (zeroB z)).1 < 1048576 := (left_ok hkn (of i) (zeroB z) (zeroB_size z)).low 20 hK (by omega)
  go_enter Tryz.func55, Tryz.ntmps55
  go_wp2_with fail
  go_region_held3 (fun w' => w'.cell? ⟨p, 3 + i, none⟩ = some (.int .i64 (of i : Int)) ∧ w'.cell? ⟨p, 2, none⟩ = some (.int .i64 (z : Int)) ∧ BoxIn w w' p K n z of kn)
    (first | (exact BoxIn.all hin hi40) | (exact BoxIn.all hin.drew hi40) | (exact BoxIn.all hs2 hi40) | (exact BoxIn.all hs1 hi40) | (exact BoxIn.all (BoxIn.alloc (by go_split_ands; assumption) _) hi40) | (exact BoxIn.all (BoxIn.setCell (BoxIn.setCell (by go_split_ands; assumption) hp (by first | omega | (dsimp only; omega) | (simp; omega)) _) hp (by first | omega | (dsimp only; omega) | (simp; omega)) _) hi40) | go_keep)
    (first
      | (go_at_call 88; refine (bnoughts_any z _ hz).mono ?_; rintro e w1 ⟨rfl, hb1⟩; obtain ⟨k1, k2⟩ := bcell hb1; have hs1 : BoxIn w w1 p K n z of kn := BoxIn.on (by go_split_ands; assumption) hb1; have hz1 := hs1.below.size; (try (have y1 : w.heap.size < w1.heap.size := by have := hb1.size; simp at this; omega)))
      | (go_at_call 86; refine (without_any p K n z (of i) of kn (zeroB z) _ hK hkn hx (zeroB_size z) hz ?_).mono ?_; (go_split_ands; exact BoxIn.box (by assumption)); rintro e w2 ⟨rfl, hb2⟩; obtain ⟨m1, m2⟩ := bcell hb2; have hs2 : BoxIn w w2 p K n z of kn := BoxIn.on (by go_split_ands; assumption) hb2; have hz2 := hs2.below.size))
  all_goals
    by_cases h0 : (left kn (of i) (zeroB z)).1 = 0
    · have hne : (((left kn (of i) (zeroB z)).1 : Int) != 0) = false := by simp [bne]; exact h0
      have HE := hide h0
      clear h0
      go_wp2_with fail
      go_ret2
      exact ⟨by first | rfl | (rw [if_pos HE.out]; rfl), by first | exact (hs2.alloc _).below | exact ((hs2.setCell hp (by first | omega | (dsimp only; omega)) _).setCell hp (by first | omega | (dsimp only; omega)) _).below⟩
    · have hne : (((left kn (of i) (zeroB z)).1 : Int) != 0) = true := by simp [bne]; exact h0
      have HE := hide h0
      clear h0
      go_wp2_with fail
      go_ret2
      exact ⟨by first | rfl | (rw [if_neg HE.out]; rfl), by first | exact (hs2.alloc _).below | exact ((hs2.setCell hp (by first | omega | (dsimp only; omega)) _).setCell hp (by first | omega | (dsimp only; omega)) _).below⟩

set_option maxRecDepth 100000 in
set_option maxHeartbeats 4000000 in
theorem bneed_any (p K n z : Nat) (of : Nat → Nat) (kn : Kn) (w : World) (hK : K ≤ 20) (hbox : BoxAt w p K n z of kn) :
    Calls Tryz.prog 53 #[.pointer (some ⟨p, 0, none⟩)] w fun e w' => e = .returned (.int .i64 (openK kn K : Int)) ∧ w' = w := by
  obtain ⟨h0, h1, h2⟩ := hbox.head
  have hp := hbox.lt
  go_enter Tryz.func53, Tryz.ntmps53
  go_wp2_with fail
  go_loop [3, 4] (fun nv jv => ∃ j : Nat, j ≤ K ∧ jv = .int .i64 (j : Int) ∧ nv = .int .i64 (openK kn j : Int)) (fun _ jv => K - (intOf jv).toNat)
  case atStart => exact ⟨0, Nat.zero_le _, rfl, rfl⟩
  case round =>
    obtain ⟨j, hj, rfl, rfl⟩ := hrel
    have hle := openK_le kn j
    by_cases hlt : j < K
    · obtain ⟨c0, _⟩ := hbox.known (j := j) (by omega)
      have i1 : (0 : Int) ≤ (j : Int) := by omega
      have i2 : (j : Int) < 20 := by omega
      have hs := openK_succ kn j
      by_cases hz : (kn j).1 = 0
      · rw [if_pos hz] at hs
        have Hs := hide hs
        have b0 : (((kn j).1 : Int) == 0) = true := by rw [hz]; rfl
        clear hs hz
        go_wp2_with fail
        go_round
        case rel => exact ⟨j + 1, by omega, by go_num, by rw [Hs.out]; go_num⟩
        case measure => simp [intOf]; omega
      · rw [if_neg hz, Nat.add_zero] at hs
        have Hs := hide hs
        have b0 : (((kn j).1 : Int) == 0) = false := by simpa using hz
        clear hs
        go_wp2_with fail
        go_round
        case rel => exact ⟨j + 1, by omega, by go_num, by rw [Hs.out]; rfl⟩
        case measure => simp [intOf]; omega
    · have hjK : j = K := by omega
      subst hjK
      go_wp2_with fail
      go_ret
      exact ⟨rfl, rfl⟩

end Go.Proofs.YtnjaofkieajnlaaGreat

/- The program's Put. -/
namespace Go.Proofs.YtnjaofkieajnlaaGreat
open Go.RowKit

/-- What Put answers, by what is left of the piece. -/
def putE (f : Fct) (z : Nat) : Int := if f.1 = 0 ∧ f.2 ≠ zeroB z then 4 else 0

set_option maxRecDepth 100000 in
set_option maxHeartbeats 4000000 in
theorem bput_arg (p K n z : Nat) (i : Int) (t : ByteArray) (of : Nat → Nat) (kn : Kn) (w : World) (hi : i < 0 ∨ (n : Int) ≤ i) (hbox : BoxAt w p K n z of kn) :
    Calls Tryz.prog 52 #[.pointer (some ⟨p, 0, none⟩), .int .i64 i, .string t] w fun e w' => e = .returned (.int .i64 2) ∧ w' = w := by
  obtain ⟨h0, h1, h2⟩ := hbox.head
  go_enter Tryz.func52, Tryz.ntmps52
  rcases hi with hi | hi
  · go_wp2_with fail
    go_ret
    exact ⟨rfl, rfl⟩
  · by_cases h0 : i < 0
    · go_wp2_with fail
      go_ret
      exact ⟨rfl, rfl⟩
    · go_wp2_with fail
      go_ret
      exact ⟨rfl, rfl⟩

set_option maxRecDepth 100000 in
set_option maxHeartbeats 4000000 in
theorem bput_shape (p K n z i : Nat) (t : ByteArray) (of : Nat → Nat) (kn : Kn) (w : World) (hi : i < n) (ht : t.size ≠ z) (hbox : BoxAt w p K n z of kn) :
    Calls Tryz.prog 52 #[.pointer (some ⟨p, 0, none⟩), .int .i64 (i : Int), .string t] w fun e w' => e = .returned (.int .i64 3) ∧ w' = w := by
  obtain ⟨h0, h1, h2⟩ := hbox.head
  have i1 : ¬ (i : Int) < 0 := by omega
  have i2 : ¬ (n : Int) ≤ (i : Int) := by omega
  have hb : ((t.size : Int) != (z : Int)) = true := by simp; omega
  go_enter Tryz.func52, Tryz.ntmps52
  go_wp2_with fail
  go_ret
  exact ⟨rfl, rfl⟩

set_option maxRecDepth 100000 in
set_option maxHeartbeats 4000000 in
theorem bput_ok (p K n z i : Nat) (t : ByteArray) (of : Nat → Nat) (kn : Kn) (w : World) (hK : K ≤ 20) (hkn : KnOk K z kn) (hof : ∀ i, of i < 2 ^ K) (hz : z ≤ 1000) (hn : n ≤ 40) (hi : i < n) (ht : t.size = z) (hbox : BoxAt w p K n z of kn) :
    Calls Tryz.prog 52 #[.pointer (some ⟨p, 0, none⟩), .int .i64 (i : Int), .string t] w fun e w' => e = .returned (.int .i64 (putE (left kn (of i) t) z)) ∧ BoxAt w' p K n z of (putK kn (of i) t) ∧ Chg (fun k => k = p) w w' := by
  obtain ⟨h0, h1, h2⟩ := hbox.head
  have hp := hbox.lt
  have hx : of i < 1048576 := Nat.lt_of_lt_of_le (hof i) (Nat.le_trans (Nat.pow_le_pow_right (by omega) hK) (by decide))
  have hoi := hbox.of_ (i := i) (by omega)
  have i0 : ¬ (i : Int) < 0 := by omega
  have i1 : (0 : Int) ≤ (i : Int) := by omega
  have i2 : ¬ (n : Int) ≤ (i : Int) := by omega
  have i3 : (i : Int) < 40 := by omega
  have hb : ((t.size : Int) != (z : Int)) = false := by simp; omega
  have hlz : (left kn (of i) t).1 < 1048576 := (left_ok hkn (of i) t ht).low 20 hK (by omega)
  have hls := (left_ok hkn (of i) t ht).size
  have hput : putK kn (of i) t = if (left kn (of i) t).1 = 0 then kn else fun j => if j = (left kn (of i) t).1.log2 then left kn (of i) t else kn j := rfl
  have hwo := without_any p K n z (of i) of kn t
  rw [hput]
  clear hput
  generalize left kn (of i) t = L at *
  go_enter Tryz.func52, Tryz.ntmps52
  go_wp2_with fail
  refine (hwo _ hK hkn hx ht hz hbox).mono ?_
  rintro e w1 ⟨rfl, hb1⟩
  clear hwo
  have hbox1 := hbox.on (Nat.le_refl _) hb1
  have hp1 := hbox1.lt
  have hsz1 := hb1.size
  obtain ⟨g0, g1, g2⟩ := hbox1.head
  have hboxA : BoxAt (w1.alloc (.cells #[.int .i64 (L.1 : Int), .string L.2] 82)) p K n z of kn := hbox1.block (heap_alloc_old _ _ hp1)
  have hbA : Below w.heap.size w (w1.alloc (.cells #[.int .i64 (L.1 : Int), .string L.2] 82)) := hb1.alloc hb1.size _
  by_cases hf0 : L.1 = 0
  · have hne : ((L.1 : Int) != 0) = false := by simp [bne]; exact hf0
    have HE := hide hf0
    clear hf0 g0 g1 h0 h1 h2 hoi
    have hc1 : (w1.alloc (.cells #[.int .i64 (L.1 : Int), .string L.2] 82)).cell? ⟨w1.heap.size, 1, none⟩ = some (.string L.2) := by
      rw [cell_of_row _ _ _ _ _ _ (heap_alloc_new w1 _)]; rfl
    have hc2 := hboxA.head.2.2
    by_cases hzz : L.2 = zeroB z
    · have hpe : putE L z = 0 := by unfold putE; rw [if_neg (fun h => h.2 hzz)]
      have hbb : (L.2.toList == (zeroB z).toList) = true := by rw [hzz]; simp
      have HP := hide hpe
      clear hpe hzz
      go_wp2_with fail
      go_region_held3 (fun w' => w'.cell? ⟨w1.heap.size, 1, none⟩ = some (.string L.2) ∧ w'.cell? ⟨p, 2, none⟩ = some (.int .i64 (z : Int)))
        (first | (exact ⟨hc1, hc2⟩) | (exact ⟨j0, j1⟩) | go_keep)
        (first
          | (go_at_call 88; refine (bnoughts_any z _ hz).mono ?_; rintro e w2 ⟨rfl, hb2⟩; have j0 := (hb2.cell (p := ⟨w1.heap.size, 1, none⟩) (by simp)).trans hc1; have j1 := (hb2.cell (p := ⟨p, 2, none⟩) (by simp; omega)).trans hc2))
      all_goals
        have hbx := hboxA.block (w' := w2) (hb2.block p (by simp; omega))
        have hbf : Below w.heap.size w w2 := hbA.drew.trans (Below.mono hb2 hbA.size)
        have hcg := Chg.of_below hbf (fun k => k = p)
        clear hb2 hbA hboxA hbox1 hb1 j0 j1 hc1 hc2 g2
        go_wp2_with fail
        go_ret
        exact ⟨by rw [HP.out]; rfl, by first | (rw [if_pos HE.out]; exact hbx) | exact hbx, hcg⟩
    · have hpe : putE L z = 4 := by unfold putE; rw [if_pos ⟨HE.out, hzz⟩]
      have hbb := beq_bytes hzz
      have HP := hide hpe
      clear hpe hzz
      go_wp2_with fail
      go_region_held3 (fun w' => w'.cell? ⟨w1.heap.size, 1, none⟩ = some (.string L.2) ∧ w'.cell? ⟨p, 2, none⟩ = some (.int .i64 (z : Int)))
        (first | (exact ⟨hc1, hc2⟩) | (exact ⟨j0, j1⟩) | go_keep)
        (first
          | (go_at_call 88; refine (bnoughts_any z _ hz).mono ?_; rintro e w2 ⟨rfl, hb2⟩; have j0 := (hb2.cell (p := ⟨w1.heap.size, 1, none⟩) (by simp)).trans hc1; have j1 := (hb2.cell (p := ⟨p, 2, none⟩) (by simp; omega)).trans hc2))
      all_goals
        have hbx := hboxA.block (w' := w2) (hb2.block p (by simp; omega))
        have hbf : Below w.heap.size w w2 := hbA.drew.trans (Below.mono hb2 hbA.size)
        have hcg := Chg.of_below hbf (fun k => k = p)
        clear hb2 hbA hboxA hbox1 hb1 j0 j1 hc1 hc2 g2
        go_wp2_with fail
        go_ret
        exact ⟨by rw [HP.out]; rfl, by first | (rw [if_pos HE.out]; exact hbx) | exact hbx, hcg⟩
  · have hne : ((L.1 : Int) != 0) = true := by simp [bne]; exact hf0
    have HE := hide hf0
    have hhi := highest_any L.1
    have ht20 : L.1.log2 < 20 := (Nat.log2_lt hf0).2 hlz
    have hpe : putE L z = 0 := by unfold putE; rw [if_neg (fun h => hf0 h.1)]
    have HP := hide hpe
    obtain ⟨q0, q1⟩ := hbox1.known ht20
    have f0 := hbox1.frozen (43 + L.1.log2 * 2)
    have f1 := hbox1.frozen (43 + L.1.log2 * 2 + 1)
    have hst := hbox1.store (t := L.1.log2) L
    have hst2 := hst.block (heap_alloc_old _ (.cells #[.int .i64 (L.1 : Int), .string L.2] 82) hst.lt)
    have hcg := ((((Chg.of_below hb1 (fun k => k = p)).setCell (a := ⟨p, 43 + L.1.log2 * 2, none⟩) (Or.inr rfl) (.int .i64 (L.1 : Int))).setCell (a := ⟨p, 43 + L.1.log2 * 2 + 1, none⟩) (Or.inr rfl) (.string L.2)).alloc (.cells #[.int .i64 (L.1 : Int), .string L.2] 82)).drew
    clear hst
    clear hpe g0 g1 h0 h1 h2 hoi
    go_wp2_with fail
    refine (hhi _ hlz hf0).mono ?_
    rintro e w2 ⟨rfl, rfl⟩
    have t1 : (0 : Int) ≤ (L.1.log2 : Int) := by omega
    have t2 : (L.1.log2 : Int) < 20 := by omega
    clear hhi hlz hf0
    go_wp2_with fail
    go_region
    all_goals
      clear q0 q1 f0 f1
      go_wp2_with fail
      go_ret
      exact ⟨by rw [HP.out]; rfl, by first | (rw [if_neg HE.out]; exact hst2) | exact hst2, hcg⟩

end Go.Proofs.YtnjaofkieajnlaaGreat

/- The program's box as it is called: Get, Put and Need. -/
namespace Go.Proofs.YtnjaofkieajnlaaGreat
open Go.RowKit

theorem below_chg {S : Nat → Prop} {w wr w2 : World} (h : Below w.heap.size w wr) (hc : Chg S wr w2) (hs : ∀ k, S k → w.heap.size ≤ k) : Below w.heap.size w w2 :=
  ⟨hc.os.trans h.os, hc.tape.trans h.tape, hc.output.trans h.output, Nat.le_trans h.size hc.size, fun k hk => (hc.block k (Nat.lt_of_lt_of_le hk h.size) (fun s => by have := hs k s; omega)).trans (h.block k hk)⟩

theorem get_arg (p K n z : Nat) (i : Int) (of : Nat → Nat) (kn : Kn) (w : World) (hi : i < 0 ∨ (n : Int) ≤ i) (hbox : BoxAt w p K n z of kn) :
    Calls Tryz.prog 30 #[.pointer (some ⟨p, 0, none⟩), .int .i64 i] w fun e w' => e = .returned (.tuple #[.string ⟨#[]⟩, .int .i64 2]) ∧ w' = w := by
  go_enter Tryz.func30, Tryz.ntmps30
  go_wp2_with fail
  refine (bget_arg p K n z i of kn _ hi hbox).mono ?_
  rintro e w1 ⟨rfl, rfl⟩
  go_wp2_with fail
  go_ret2
  exact ⟨rfl, rfl⟩

set_option maxRecDepth 100000 in
set_option maxHeartbeats 4000000 in
theorem get_ok (p K n z i : Nat) (of : Nat → Nat) (kn : Kn) (w : World) (hK : K ≤ 20) (hkn : KnOk K z kn) (hof : ∀ i, of i < 2 ^ K) (hz : z ≤ 1000) (hn : n ≤ 40) (hi : i < n) (hbox : BoxAt w p K n z of kn) :
    Calls Tryz.prog 30 #[.pointer (some ⟨p, 0, none⟩), .int .i64 (i : Int)] w fun e w' => e = .returned (.tuple (if (left kn (of i) (zeroB z)).1 = 0 then #[.string (left kn (of i) (zeroB z)).2, .int .i64 0] else #[.string ⟨#[]⟩, .int .i64 5])) ∧ Below w.heap.size w w' := by
  have hget := bget_ok p K n z i of kn
  generalize left kn (of i) (zeroB z) = L at *
  go_enter Tryz.func30, Tryz.ntmps30
  go_wp2_with fail
  refine (hget _ hK hkn hof hz hn hi hbox).mono ?_
  rintro e w1 ⟨rfl, hb⟩
  clear hget hbox
  by_cases h0 : L.1 = 0
  · rw [if_pos h0]
    go_wp2_with fail
    go_ret2
    exact ⟨by first | rfl | (rw [if_pos h0]; rfl), hb⟩
  · rw [if_neg h0]
    go_wp2_with fail
    go_ret2
    exact ⟨by first | rfl | (rw [if_neg h0]; rfl), hb⟩

set_option maxRecDepth 100000 in
set_option maxHeartbeats 4000000 in
theorem need_any (p K n z : Nat) (of : Nat → Nat) (kn : Kn) (w : World) (hK : K ≤ 20) (hbox : BoxAt w p K n z of kn) :
    Calls Tryz.prog 28 #[.pointer (some ⟨p, 0, none⟩)] w fun e w' => e = .returned (.int .i64 (openK kn K : Int)) ∧ w' = w := by
  go_enter Tryz.func28, Tryz.ntmps28
  go_wp2_with fail
  refine (bneed_any p K n z of kn _ hK hbox).mono ?_
  rintro e w1 ⟨rfl, rfl⟩
  go_wp2_with fail
  go_ret
  exact ⟨rfl, rfl⟩

theorem put_arg (p K n z : Nat) (i : Int) (t : ByteArray) (of : Nat → Nat) (kn : Kn) (w : World) (hi : i < 0 ∨ (n : Int) ≤ i) (hbox : BoxAt w p K n z of kn) :
    Calls Tryz.prog 26 #[.pointer (some ⟨p, 0, none⟩), .int .i64 i, .string t] w fun e w' => e = .returned (.int .i64 2) ∧ w' = w := by
  go_enter Tryz.func26, Tryz.ntmps26
  go_wp2_with fail
  refine (bput_arg p K n z i t of kn _ hi hbox).mono ?_
  rintro e w1 ⟨rfl, rfl⟩
  go_wp2_with fail
  go_ret
  exact ⟨rfl, rfl⟩

theorem put_shape (p K n z i : Nat) (t : ByteArray) (of : Nat → Nat) (kn : Kn) (w : World) (hi : i < n) (ht : t.size ≠ z) (hbox : BoxAt w p K n z of kn) :
    Calls Tryz.prog 26 #[.pointer (some ⟨p, 0, none⟩), .int .i64 (i : Int), .string t] w fun e w' => e = .returned (.int .i64 3) ∧ w' = w := by
  go_enter Tryz.func26, Tryz.ntmps26
  go_wp2_with fail
  refine (bput_shape p K n z i t of kn _ hi ht hbox).mono ?_
  rintro e w1 ⟨rfl, rfl⟩
  go_wp2_with fail
  go_ret
  exact ⟨rfl, rfl⟩

set_option maxRecDepth 100000 in
set_option maxHeartbeats 4000000 in
theorem put_ok (p K n z i : Nat) (t : ByteArray) (of : Nat → Nat) (kn : Kn) (w : World) (hK : K ≤ 20) (hkn : KnOk K z kn) (hof : ∀ i, of i < 2 ^ K) (hz : z ≤ 1000) (hn : n ≤ 40) (hi : i < n) (ht : t.size = z) (hbox : BoxAt w p K n z of kn) :
    Calls Tryz.prog 26 #[.pointer (some ⟨p, 0, none⟩), .int .i64 (i : Int), .string t] w fun e w' => e = .returned (.int .i64 (putE (left kn (of i) t) z)) ∧ BoxAt w' p K n z of (putK kn (of i) t) ∧ Chg (fun k => k = p) w w' := by
  go_enter Tryz.func26, Tryz.ntmps26
  go_wp2_with fail
  refine (bput_ok p K n z i t of kn _ hK hkn hof hz hn hi ht hbox).mono ?_
  rintro e w1 ⟨rfl, hb, hc⟩
  go_wp2_with fail
  go_ret
  exact ⟨rfl, hb, hc⟩

end Go.Proofs.YtnjaofkieajnlaaGreat

/- The document's own boxes in memory; Get; what Put makes of them. -/
namespace Go.Proofs.YtnjaofkieajnlaaGreat
open Go.RowKit

set_option maxRecDepth 100000 in
set_option maxHeartbeats 8000000 in
theorem rget_any (r K M O S z i : Nat) (av pv : Value) (ps : List (Nat × ByteArray)) (w : World) (hK : 1 ≤ K ∧ K ≤ 20) (hM : 1 ≤ M ∧ M ≤ 20) (hO : 1 ≤ O ∧ O ≤ M) (hS : S ≤ 65535) (hz : 0 < z ∧ z ≤ 1000)
    (hbox : w.heap[r]? = some (rboxB K M O S z av pv)) (hA : NumsAt w av (ps.map Prod.fst)) (hP : TextsAt w pv (ps.map Prod.snd)) (hps : ps.length ≤ 900) (hin : ∀ x ∈ ps, x.1 < K + M ∧ x.2.size = z) (hi : i < 40) :
    Calls Tryz.prog 31 #[.pointer (some ⟨r, 0, none⟩), .int .i64 (i : Int)] w fun e w' => e = .returned (.tuple #[.string (told (boxFacts K M O S z ps) (2 ^ i) z).1, .bool (told (boxFacts K M O S z ps) (2 ^ i) z).2]) ∧ Below w.heap.size w w' := by
  obtain ⟨c0, c1, c2, c3, c4, c5, c6, hr⟩ := rbox_cells hbox
  have hsz := boxFacts_sized K M O S z ps (fun p hp => (hin p hp).2)
  have hlo := boxFacts_low K M O S z 40 ps (by omega) (fun p hp => (hin p hp).1)
  have hlen : (boxFacts K M O S z ps).length ≤ 1000 := by unfold boxFacts rowFacts putFacts; simp; omega
  have hfacts := fun w hb hA hP => facts_any r K M O S z av pv ps w hK hM hO hS hz hb hA hP hps (fun x hx => by have := (hin x hx).1; omega)
  have htold := fun v w hat => told_any v (boxFacts K M O S z ps) (2 ^ i) z w hlen hz hsz hlo (pow_lt i hi) hat
  obtain ⟨s1, s2⟩ := shl_small i hi
  generalize boxFacts K M O S z ps = F at *
  generalize told F (2 ^ i) z = td at *
  have Hs2 := hide s2
  clear c0 c1 c2 c3 c5 c6 hsz hlo hlen s1 s2
  go_enter Tryz.func31, Tryz.ntmps31
  go_wp2_with fail
  go_region_held3 (fun w' => w'.cell? ⟨r, 4, none⟩ = some (.int .i64 (z : Int)))
    (first | (exact c4) | (exact j0) | (exact k0) | go_keep)
    (first
      | (go_at_call 57; refine (hfacts w.drew hbox hA hP).mono ?_; rintro e w1 ⟨v1, rfl, hown, hb1⟩; have j0 := (hb1.cell (p := ⟨r, 4, none⟩) hr).trans c4)
      | (go_at_call 56; rw [Hs2.out]; refine (htold _ _ (owns_facts hown)).mono ?_; rintro e w2 ⟨rfl, hb2⟩; have k0 := (hb2.cell (p := ⟨r, 4, none⟩) (Nat.lt_of_lt_of_le hr hb1.size)).trans j0))
  all_goals
    have hb0 : Below w.heap.size w w1 := (Below.refl w.heap.size w).drew.trans hb1
    have hbf : Below w.heap.size w w2 := hb0.trans (hb2.mono hb0.size)
    clear hb0
    clear hb1 hb2 hown hfacts htold hbox hA hP
    go_wp2_with fail
    go_ret2
    exact ⟨rfl, hbf⟩

end Go.Proofs.YtnjaofkieajnlaaGreat

namespace Go.Proofs.YtnjaofkieajnlaaGreat
open Go.RowKit

/-- A box of the document's: its block, and the two lists that it owns. -/
structure RBoxAt (w : World) (r K M O S z : Nat) (av pv : Value) (ps : List (Nat × ByteArray)) : Prop where
  box : w.heap[r]? = some (rboxB K M O S z av pv)
  oa : w.ownsRow 0 3 1 av ps.length (numsV (ps.map Prod.fst))
  op : w.ownsRow 0 9 1 pv ps.length (textV (ps.map Prod.snd))

/-- The blocks of such a box. -/
def fpR (r : Nat) (av pv : Value) (k : Nat) : Prop := k = r ∨ av.ownBlock = some k ∨ pv.ownBlock = some k

theorem owns_nums {w : World} {base : Nat} {v : Value} {l : List Nat} {n : Nat} (h : w.ownsRow base 3 1 v n (numsV l)) (hn : n = l.length) : NumsAt w v l := by
  subst hn
  rcases owns_cells h with ⟨rfl, rfl⟩ | ⟨g, cap, rfl, h1, hcell⟩
  · exact ⟨none, 0, rfl, Nat.le_refl _, fun k hk => by simp at hk⟩
  · refine ⟨_, cap, rfl, h1, fun k hk => ⟨g, 0, rfl, (h.lt g rfl).2, ?_⟩⟩
    rw [Nat.zero_add]; exact hcell k hk

/-- Blocks of two types are two. -/
theorem owns_other {w : World} {base : Nat} {e t : TypeId} {size n k : Nat} {v : Value} {xs : List Value} {cs : Array Value} {fr : Nat × Nat} (h : w.ownsRow base e size v n xs) (hb : w.heap[k]? = some (.cells cs t fr)) (hne : e ≠ t) : v.ownBlock ≠ some k := by
  intro hk
  obtain ⟨cur, hcur⟩ := owns_block h hk
  rw [hb] at hcur
  simp at hcur
  exact hne hcur.2.1.symm

theorem owns_parted {w : World} {b1 b2 : Nat} {e t : TypeId} {s1 s2 n m k : Nat} {v u : Value} {xs ys : List Value} (h : w.ownsRow b1 e s1 v n xs) (h2 : w.ownsRow b2 t s2 u m ys) (hne : e ≠ t) (hk : v.ownBlock = some k) : u.ownBlock ≠ some k := by
  obtain ⟨cur, hcur⟩ := owns_block h hk
  exact owns_other h2 hcur (fun e => hne e.symm)

namespace RBoxAt
variable {w w' w2 : World} {r K M O S z : Nat} {av pv : Value} {ps : List (Nat × ByteArray)}

theorem lt (h : RBoxAt w r K M O S z av pv ps) : r < w.heap.size := (Array.getElem?_eq_some_iff.1 h.box).1

theorem fp_lt (h : RBoxAt w r K M O S z av pv ps) {k : Nat} (hk : fpR r av pv k) : k < w.heap.size := by
  rcases hk with rfl | hk | hk
  · exact h.lt
  · exact (h.oa.lt k hk).2
  · exact (h.op.lt k hk).2

theorem blocks (h : RBoxAt w r K M O S z av pv ps) (hb : ∀ k, fpR r av pv k → w'.heap[k]? = w.heap[k]?) : RBoxAt w' r K M O S z av pv ps :=
  ⟨by rw [hb r (Or.inl rfl)]; exact h.box, owns_of_block h.oa (fun k hk => hb k (Or.inr (Or.inl hk))), owns_of_block h.op (fun k hk => hb k (Or.inr (Or.inr hk)))⟩

theorem on (h : RBoxAt w r K M O S z av pv ps) {m : Nat} (hm : w.heap.size ≤ m) (hb : Below m w w') : RBoxAt w' r K M O S z av pv ps :=
  h.blocks (fun k hk => hb.block k (Nat.lt_of_lt_of_le (h.fp_lt hk) hm))

theorem chg {T : Nat → Prop} (h : RBoxAt w r K M O S z av pv ps) (hc : Chg T w w') (hn : ∀ k, fpR r av pv k → ¬ T k) : RBoxAt w' r K M O S z av pv ps :=
  h.blocks (fun k hk => hc.block k (h.fp_lt hk) (hn k hk))

theorem nums (h : RBoxAt w r K M O S z av pv ps) : NumsAt w av (ps.map Prod.fst) := owns_nums h.oa (by simp)
theorem texts (h : RBoxAt w r K M O S z av pv ps) : TextsAt w pv (ps.map Prod.snd) := owns_texts h.op (by simp)

end RBoxAt

/-- A number is appended to the first list, and stored. -/
theorem rpush_at {w w2 : World} {r K M O S z g n cap : Nat} {av pv : Value} {ps : List (Nat × ByteArray)} {xs : List Value} (h : RBoxAt w r K M O S z av pv ps) (hg : w.grownBy w2 av.ownBlock) (hown : w2.ownsRow 0 3 1 (.slice (some ⟨g, 0, none⟩) n cap) n xs) :
    (w2.setCell ⟨r, 5, none⟩ (.slice (some ⟨g, 0, none⟩) n cap)).heap[r]? = some (rboxB K M O S z (.slice (some ⟨g, 0, none⟩) n cap) pv) ∧ (w2.setCell ⟨r, 5, none⟩ (.slice (some ⟨g, 0, none⟩) n cap)).ownsRow 0 3 1 (.slice (some ⟨g, 0, none⟩) n cap) n xs ∧
      (w2.setCell ⟨r, 5, none⟩ (.slice (some ⟨g, 0, none⟩) n cap)).ownsRow 0 9 1 pv ps.length (textV (ps.map Prod.snd)) ∧ Chg (fpR r av pv) w (w2.setCell ⟨r, 5, none⟩ (.slice (some ⟨g, 0, none⟩) n cap)) := by
  have hra := owns_other h.oa h.box (by decide)
  have hrp := owns_other h.op h.box (by decide)
  have hr2 : w2.heap[r]? = some (rboxB K M O S z av pv) := by rw [hg.block r h.lt (fun e => hra e.symm)]; exact h.box
  have hrg := owns_other hown hr2 (by decide)
  refine ⟨?_, ?_, ?_, ?_⟩
  · rw [heap_setCell_same _ _ _ _ _ _ hr2]; rfl
  · exact owns_of_block hown (fun k hk => heap_setCell_other _ _ _ _ (by rintro rfl; exact hrg hk))
  · refine owns_of_block h.op (fun k hk => ?_)
    rw [heap_setCell_other _ _ _ _ (by rintro rfl; exact hrp hk)]
    exact hg.block k (h.op.lt k hk).2 (fun e => owns_parted h.op h.oa (by decide) hk e.symm)
  · exact ((Chg.refl (fpR r av pv) w).grown hg (fun k hk => Or.inr (Or.inr (Or.inl hk)))).setCell (a := ⟨r, 5, none⟩) (Or.inr (Or.inl rfl)) _

/-- A text is appended to the second list, and stored. -/
theorem rpush_piece {w w2 : World} {r K M O S z g n n' m cap : Nat} {av pv : Value} {xs bs ys : List Value} (hbox : w.heap[r]? = some (rboxB K M O S z av pv)) (hoa : w.ownsRow 0 3 1 av m bs) (hop : w.ownsRow 0 9 1 pv n ys) (hg : w.grownBy w2 pv.ownBlock) (hown : w2.ownsRow 0 9 1 (.slice (some ⟨g, 0, none⟩) n' cap) n' xs) :
    (w2.setCell ⟨r, 6, none⟩ (.slice (some ⟨g, 0, none⟩) n' cap)).heap[r]? = some (rboxB K M O S z av (.slice (some ⟨g, 0, none⟩) n' cap)) ∧ (w2.setCell ⟨r, 6, none⟩ (.slice (some ⟨g, 0, none⟩) n' cap)).ownsRow 0 3 1 av m bs ∧
      (w2.setCell ⟨r, 6, none⟩ (.slice (some ⟨g, 0, none⟩) n' cap)).ownsRow 0 9 1 (.slice (some ⟨g, 0, none⟩) n' cap) n' xs ∧ Chg (fun k => k = r ∨ pv.ownBlock = some k) w (w2.setCell ⟨r, 6, none⟩ (.slice (some ⟨g, 0, none⟩) n' cap)) := by
  have hlt : r < w.heap.size := (Array.getElem?_eq_some_iff.1 hbox).1
  have hra := owns_other hoa hbox (by decide)
  have hrp := owns_other hop hbox (by decide)
  have hr2 : w2.heap[r]? = some (rboxB K M O S z av pv) := by rw [hg.block r hlt (fun e => hrp e.symm)]; exact hbox
  have hrg := owns_other hown hr2 (by decide)
  refine ⟨?_, ?_, ?_, ?_⟩
  · rw [heap_setCell_same _ _ _ _ _ _ hr2]; rfl
  · refine owns_of_block hoa (fun k hk => ?_)
    rw [heap_setCell_other _ _ _ _ (by rintro rfl; exact hra hk)]
    exact hg.block k (hoa.lt k hk).2 (fun e => owns_parted hoa hop (by decide) hk e.symm)
  · exact owns_of_block hown (fun k hk => heap_setCell_other _ _ _ _ (by rintro rfl; exact hrg hk))
  · exact ((Chg.refl (fun k => k = r ∨ pv.ownBlock = some k) w).grown hg (fun k hk => Or.inr (Or.inr hk))).setCell (a := ⟨r, 6, none⟩) (Or.inr (Or.inl rfl)) _

end Go.Proofs.YtnjaofkieajnlaaGreat

/- Lists of pairs (of a thing of the program's and its like of the document's), of any sort, as the statements' world holds them. -/
namespace Go.Proofs.YtnjaofkieajnlaaGreat
open Go.RowKit

/-- A sort of pairs: two blocks, all blocks that are a pair's own, and what it is that one lies in a world. -/
structure Kind (α : Type) where
  no : α
  p : α → Nat
  r : α → Nat
  fp : α → Nat → Prop
  lies : World → α → Prop
  lt : ∀ {w : World} {a : α} {k : Nat}, lies w a → fp a k → k < w.heap.size
  blocks : ∀ {w w' : World} {a : α}, lies w a → (∀ k, fp a k → w'.heap[k]? = w.heap[k]?) → lies w' a

/-- Pairs as values: two pointers each. -/
def Kind.vals {α : Type} (κ : Kind α) : List α → List Value
  | [] => []
  | b :: l => .pointer (some ⟨κ.p b, 0, none⟩) :: .pointer (some ⟨κ.r b, 0, none⟩) :: κ.vals l

theorem Kind.vals_append {α : Type} (κ : Kind α) (a b : List α) : κ.vals (a ++ b) = κ.vals a ++ κ.vals b := by
  induction a with
  | nil => rfl
  | cons f a ih => simp [Kind.vals, ih]

theorem Kind.vals_get {α : Type} (κ : Kind α) (l : List α) (k : Nat) (h : k < l.length) : (κ.vals l)[k * 2]? = some (.pointer (some ⟨κ.p (l.getD k κ.no), 0, none⟩)) ∧ (κ.vals l)[k * 2 + 1]? = some (.pointer (some ⟨κ.r (l.getD k κ.no), 0, none⟩)) := by
  induction l generalizing k with
  | nil => simp at h
  | cons f l ih =>
    cases k with
    | zero => exact ⟨rfl, rfl⟩
    | succ k =>
      have := ih k (by simpa using h)
      rw [show (k + 1) * 2 = k * 2 + 1 + 1 from by omega]
      exact this

theorem Kind.vals_set {α : Type} (κ : Kind α) (l : List α) (i : Nat) (b : α) (hp : κ.p b = κ.p (l.getD i κ.no)) (hr : κ.r b = κ.r (l.getD i κ.no)) : κ.vals (l.set i b) = κ.vals l := by
  induction l generalizing i with
  | nil => rfl
  | cons f l ih =>
    cases i with
    | zero =>
      have hp' : κ.p b = κ.p f := hp
      have hr' : κ.r b = κ.r f := hr
      simp [Kind.vals, hp', hr']
    | succ i => simp only [List.set_cons_succ, Kind.vals]; rw [ih i hp hr]

theorem getD_setA {α : Type} (l : List α) (d : α) (i j : Nat) (b : α) (hi : i < l.length) : (l.set i b).getD j d = if j = i then b else l.getD j d := by
  rw [List.getD_eq_getElem?_getD, List.getD_eq_getElem?_getD]
  by_cases e : j = i
  · subst e; rw [if_pos rfl, List.getElem?_set_self hi]; rfl
  · rw [if_neg e, List.getElem?_set_ne (fun h => e h.symm)]

theorem getD_snocA {α : Type} (l : List α) (d : α) (b : α) (j : Nat) : (l ++ [b]).getD j d = if j < l.length then l.getD j d else if j = l.length then b else d := by
  rw [List.getD_eq_getElem?_getD, List.getD_eq_getElem?_getD]
  by_cases h : j < l.length
  · rw [if_pos h, List.getElem?_append_left h]
  · rw [if_neg h, List.getElem?_append_right (by omega)]
    by_cases e : j = l.length
    · rw [if_pos e, e, Nat.sub_self]; rfl
    · rw [if_neg e, List.getElem?_eq_none (by simp; omega)]; rfl

/-- A list of pairs in a world. -/
structure PairsAt {α : Type} (κ : Kind α) (w : World) (t : TypeId) (v : Value) (l : List α) : Prop where
  own : w.ownsRow 0 t 2 v l.length (κ.vals l)
  each : ∀ i, i < l.length → κ.lies w (l.getD i κ.no)
  apart : ∀ i j, i < l.length → j < l.length → i ≠ j → ∀ k, κ.fp (l.getD i κ.no) k → ¬ κ.fp (l.getD j κ.no) k
  list : ∀ k, v.ownBlock = some k → ∀ i, i < l.length → ¬ κ.fp (l.getD i κ.no) k

/-- The blocks of a list of pairs. -/
def pfp {α : Type} (κ : Kind α) (v : Value) (l : List α) (k : Nat) : Prop := v.ownBlock = some k ∨ ∃ i, i < l.length ∧ κ.fp (l.getD i κ.no) k

namespace PairsAt
variable {α : Type} {κ : Kind α} {w w' : World} {t : TypeId} {v : Value} {l : List α}

theorem empty (κ : Kind α) (w : World) (t : TypeId) : PairsAt κ w t (.slice none 0 0) [] :=
  ⟨World.ownsRow_nil _ _ _ _, fun i hi => by simp at hi, fun i j hi => by simp at hi, fun k hk => by simp [Value.ownBlock] at hk⟩

theorem lt (h : PairsAt κ w t v l) {k : Nat} (hk : pfp κ v l k) : k < w.heap.size := by
  rcases hk with hk | ⟨i, hi, hk⟩
  · exact (h.own.lt k hk).2
  · exact κ.lt (h.each i hi) hk

theorem blocks (h : PairsAt κ w t v l) (hb : ∀ k, pfp κ v l k → w'.heap[k]? = w.heap[k]?) : PairsAt κ w' t v l :=
  ⟨owns_of_block h.own (fun k hk => hb k (Or.inl hk)), fun i hi => κ.blocks (h.each i hi) (fun k hk => hb k (Or.inr ⟨i, hi, hk⟩)), h.apart, h.list⟩

theorem on (h : PairsAt κ w t v l) (hb : Below w.heap.size w w') : PairsAt κ w' t v l := h.blocks (fun k hk => hb.block k (h.lt hk))

/-- A pair's cells in the list. -/
theorem cells (h : PairsAt κ w t v l) {j : Nat} (hj : j < l.length) : ∃ g cap, v = .slice (some ⟨g, 0, none⟩) l.length cap ∧ g < w.heap.size ∧ w.cell? ⟨g, j * 2, none⟩ = some (.pointer (some ⟨κ.p (l.getD j κ.no), 0, none⟩)) ∧ w.cell? ⟨g, j * 2 + 1, none⟩ = some (.pointer (some ⟨κ.r (l.getD j κ.no), 0, none⟩)) := by
  rcases h.own.2 with ⟨_, hn⟩ | ⟨g, cap, cur, he, _, hg, hc, _, _, ht⟩
  · omega
  · refine ⟨g, cap, he, (Array.getElem?_eq_some_iff.1 hg).1, ?_⟩
    rw [cell_of_row _ _ _ _ _ _ hg, cell_of_row _ _ _ _ _ _ hg]
    obtain ⟨h1, h2⟩ := κ.vals_get l j hj
    rw [← ht, List.getElem?_take, if_pos (by omega)] at h1
    rw [← ht, List.getElem?_take, if_pos (by omega)] at h2
    exact ⟨by simpa using h1, by simpa using h2⟩

theorem shape0 (h : PairsAt κ w t v l) (hl : l.length = 0) : ∃ ao cap, v = .slice ao 0 cap := by
  rcases h.own.2 with ⟨h, _⟩ | ⟨g, cap, cur, h, _⟩
  · exact ⟨none, 0, h⟩
  · exact ⟨_, cap, by rw [hl] at h; exact h⟩

/-- One pair has turned. -/
theorem update (h : PairsAt κ w t v l) {i : Nat} (hi : i < l.length) {b : α} (hc : Chg (κ.fp (l.getD i κ.no)) w w') (hp : κ.lies w' b) (e1 : κ.p b = κ.p (l.getD i κ.no)) (e2 : κ.r b = κ.r (l.getD i κ.no)) (hn : ∀ k, κ.fp b k → κ.fp (l.getD i κ.no) k ∨ w.heap.size ≤ k) :
    PairsAt κ w' t v (l.set i b) ∧ Chg (pfp κ v l) w w' ∧ (∀ k, pfp κ v (l.set i b) k → pfp κ v l k ∨ w.heap.size ≤ k) := by
  refine ⟨⟨?_, ?_, ?_, ?_⟩, hc.mono (fun k _ hk => Or.inr ⟨i, hi, hk⟩), ?_⟩
  · rw [List.length_set, κ.vals_set l i b e1 e2]
    exact owns_of_block h.own (fun k hk => hc.block k (h.own.lt k hk).2 (h.list k hk i hi))
  · intro j hj
    rw [List.length_set] at hj
    rw [getD_setA l κ.no i j b hi]
    by_cases e : j = i
    · rw [if_pos e]; exact hp
    · rw [if_neg e]
      exact κ.blocks (h.each j hj) (fun k hk => hc.block k (κ.lt (h.each j hj) hk) (fun x => h.apart i j hi hj (fun q => e q.symm) k x hk))
  · intro a c ha hcc hne k hk
    rw [List.length_set] at ha hcc
    rw [getD_setA l κ.no i a b hi] at hk
    rw [getD_setA l κ.no i c b hi]
    by_cases ea : a = i
    · rw [if_pos ea] at hk
      have ec : c ≠ i := fun e => hne (ea.trans e.symm)
      rw [if_neg ec]
      rcases hn k hk with h1 | h1
      · exact h.apart i c hi hcc (fun e => ec e.symm) k h1
      · intro h2
        have := κ.lt (h.each c hcc) h2
        omega
    · rw [if_neg ea] at hk
      by_cases ec : c = i
      · rw [if_pos ec]
        intro h2
        rcases hn k h2 with h1 | h1
        · exact h.apart a i ha hi ea k hk h1
        · have := κ.lt (h.each a ha) hk
          omega
      · rw [if_neg ec]; exact h.apart a c ha hcc hne k hk
  · intro k hk j hj hf
    rw [List.length_set] at hj
    rw [getD_setA l κ.no i j b hi] at hf
    by_cases e : j = i
    · rw [if_pos e] at hf
      rcases hn k hf with h1 | h1
      · exact h.list k hk i hi h1
      · have := (h.own.lt k hk).2
        omega
    · rw [if_neg e] at hf; exact h.list k hk j hj hf
  · rintro k (hk | ⟨j, hj, hf⟩)
    · exact Or.inl (Or.inl hk)
    · rw [List.length_set] at hj
      rw [getD_setA l κ.no i j b hi] at hf
      by_cases e : j = i
      · rw [if_pos e] at hf
        rcases hn k hf with h1 | h1
        · exact Or.inl (Or.inr ⟨i, hi, h1⟩)
        · exact Or.inr h1
      · rw [if_neg e] at hf; exact Or.inl (Or.inr ⟨j, hj, hf⟩)

/-- One pair more. -/
theorem snoc (h : PairsAt κ w t v l) {b : α} {g cap n : Nat} (hp : κ.lies w b) (hd : ∀ k, κ.fp b k → ¬ pfp κ v l k) (hg : w.grownBy w' v.ownBlock) (hown : w'.ownsRow 0 t 2 (.slice (some ⟨g, 0, none⟩) n cap) n (κ.vals (l ++ [b]))) (hl : n = l.length + 1) (hat : v.ownBlock = some g ∨ w.heap.size ≤ g) :
    PairsAt κ w' t (.slice (some ⟨g, 0, none⟩) n cap) (l ++ [b]) ∧ (∀ k, pfp κ (.slice (some ⟨g, 0, none⟩) n cap) (l ++ [b]) k → pfp κ v l k ∨ κ.fp b k ∨ w.heap.size ≤ k) := by
  subst hl
  have hkeep : ∀ k, k < w.heap.size → v.ownBlock ≠ some k → w'.heap[k]? = w.heap[k]? := fun k hk h1 => hg.block k hk (fun e => h1 e.symm)
  refine ⟨⟨?_, ?_, ?_, ?_⟩, ?_⟩
  · rw [List.length_append]; exact hown
  · intro i hi
    rw [List.length_append] at hi
    rw [getD_snocA]
    by_cases e : i < l.length
    · rw [if_pos e]
      exact κ.blocks (h.each i e) (fun k hk => hkeep k (κ.lt (h.each i e) hk) (fun x => h.list k x i e hk))
    · rw [if_neg e, if_pos (by simp at hi; omega)]
      exact κ.blocks hp (fun k hk => hkeep k (κ.lt hp hk) (fun x => hd k hk (Or.inl x)))
  · intro i j hi hj hne k hk
    rw [List.length_append] at hi hj
    rw [getD_snocA] at hk ⊢
    simp at hi hj
    by_cases ei : i < l.length
    · rw [if_pos ei] at hk
      by_cases ej : j < l.length
      · rw [if_pos ej]; exact h.apart i j ei ej hne k hk
      · rw [if_neg ej, if_pos (by omega)]; exact fun hb => hd k hb (Or.inr ⟨i, ei, hk⟩)
    · rw [if_neg ei, if_pos (by omega)] at hk
      have ej : j < l.length := by omega
      rw [if_pos ej]
      exact fun h2 => hd k hk (Or.inr ⟨j, ej, h2⟩)
  · intro k hk i hi hf
    have hgk : g = k := by simpa [Value.ownBlock] using hk
    subst hgk
    rw [List.length_append] at hi
    rw [getD_snocA] at hf
    by_cases ei : i < l.length
    · rw [if_pos ei] at hf
      rcases hat with e | e
      · exact h.list g e i ei hf
      · have := κ.lt (h.each i ei) hf
        omega
    · rw [if_neg ei, if_pos (by simp at hi; omega)] at hf
      rcases hat with e | e
      · exact hd g hf (Or.inl e)
      · have := κ.lt hp hf
        omega
  · rintro k (hk | ⟨i, hi, hf⟩)
    · have hgk : g = k := by simpa [Value.ownBlock] using hk
      subst hgk
      rcases hat with e | e
      · exact Or.inl (Or.inl e)
      · exact Or.inr (Or.inr e)
    · rw [List.length_append] at hi
      rw [getD_snocA] at hf
      by_cases ei : i < l.length
      · rw [if_pos ei] at hf; exact Or.inl (Or.inr ⟨i, ei, hf⟩)
      · rw [if_neg ei, if_pos (by simp at hi; omega)] at hf; exact Or.inr (Or.inl hf)

end PairsAt

end Go.Proofs.YtnjaofkieajnlaaGreat
