/- The program's Put. -/
import Derived.Test.YtnjaofkieajnlaaGreatPBox7
namespace Go.Proofs.YtnjaofkieajnlaaGreat
open Go.RowKit

/-- What Put answers, by what is left of the piece. -/
def putE (f : Fct) (z : Nat) : Int := if f.1 = 0 ∧ f.2 ≠ zeroB z then 4 else 0

set_option maxRecDepth 100000 in
set_option maxHeartbeats 4000000 in
theorem bput_arg (p K n z : Nat) (i : Int) (t : ByteArray) (of : Nat → Nat) (kn : Kn) (w : World) (hi : i < 0 ∨ (n : Int) ≤ i) (hbox : BoxAt w p K n z of kn) :
    Calls Tryz.prog 52 #[.pointer (some ⟨p, 0, none⟩), .int .i64 i, .string t] w fun e w' => e = .returned (.int .i64 2) ∧ w' = w := by
  obtain ⟨h0, h1, h2⟩ := hbox.head
  go_enter Tryz.func52, Tryz.ntmps52
  rcases hi with hi | hi
  · go_wp2_with fail
    go_ret
    exact ⟨rfl, rfl⟩
  · by_cases h0 : i < 0
    · go_wp2_with fail
      go_ret
      exact ⟨rfl, rfl⟩
    · go_wp2_with fail
      go_ret
      exact ⟨rfl, rfl⟩

set_option maxRecDepth 100000 in
set_option maxHeartbeats 4000000 in
theorem bput_shape (p K n z i : Nat) (t : ByteArray) (of : Nat → Nat) (kn : Kn) (w : World) (hi : i < n) (ht : t.size ≠ z) (hbox : BoxAt w p K n z of kn) :
    Calls Tryz.prog 52 #[.pointer (some ⟨p, 0, none⟩), .int .i64 (i : Int), .string t] w fun e w' => e = .returned (.int .i64 3) ∧ w' = w := by
  obtain ⟨h0, h1, h2⟩ := hbox.head
  have i1 : ¬ (i : Int) < 0 := by omega
  have i2 : ¬ (n : Int) ≤ (i : Int) := by omega
  have hb : ((t.size : Int) != (z : Int)) = true := by simp; omega
  go_enter Tryz.func52, Tryz.ntmps52
  go_wp2_with fail
  go_ret
  exact ⟨rfl, rfl⟩

set_option maxRecDepth 100000 in
set_option maxHeartbeats 4000000 in
theorem bput_ok (p K n z i : Nat) (t : ByteArray) (of : Nat → Nat) (kn : Kn) (w : World) (hK : K ≤ 20) (hkn : KnOk K z kn) (hof : ∀ i, of i < 2 ^ K) (hz : z ≤ 1000) (hn : n ≤ 40) (hi : i < n) (ht : t.size = z) (hbox : BoxAt w p K n z of kn) :
    Calls Tryz.prog 52 #[.pointer (some ⟨p, 0, none⟩), .int .i64 (i : Int), .string t] w fun e w' => e = .returned (.int .i64 (putE (left kn (of i) t) z)) ∧ BoxAt w' p K n z of (putK kn (of i) t) ∧ Chg (fun k => k = p) w w' := by
  obtain ⟨h0, h1, h2⟩ := hbox.head
  have hp := hbox.lt
  have hx : of i < 1048576 := Nat.lt_of_lt_of_le (hof i) (Nat.le_trans (Nat.pow_le_pow_right (by omega) hK) (by decide))
  have hoi := hbox.of_ (i := i) (by omega)
  have i0 : ¬ (i : Int) < 0 := by omega
  have i1 : (0 : Int) ≤ (i : Int) := by omega
  have i2 : ¬ (n : Int) ≤ (i : Int) := by omega
  have i3 : (i : Int) < 40 := by omega
  have hb : ((t.size : Int) != (z : Int)) = false := by simp; omega
  have hlz : (left kn (of i) t).1 < 1048576 := (left_ok hkn (of i) t ht).low 20 hK (by omega)
  have hls := (left_ok hkn (of i) t ht).size
  have hput : putK kn (of i) t = if (left kn (of i) t).1 = 0 then kn else fun j => if j = (left kn (of i) t).1.log2 then left kn (of i) t else kn j := rfl
  have hwo := without_any p K n z (of i) of kn t
  rw [hput]
  clear hput
  generalize left kn (of i) t = L at *
  go_enter Tryz.func52, Tryz.ntmps52
  go_wp2_with fail
  refine (hwo _ hK hkn hx ht hz hbox).mono ?_
  rintro e w1 ⟨rfl, hb1⟩
  clear hwo
  have hbox1 := hbox.on (Nat.le_refl _) hb1
  have hp1 := hbox1.lt
  have hsz1 := hb1.size
  obtain ⟨g0, g1, g2⟩ := hbox1.head
  have hboxA : BoxAt (w1.alloc (.cells #[.int .i64 (L.1 : Int), .string L.2] 82)) p K n z of kn := hbox1.block (heap_alloc_old _ _ hp1)
  have hbA : Below w.heap.size w (w1.alloc (.cells #[.int .i64 (L.1 : Int), .string L.2] 82)) := hb1.alloc hb1.size _
  by_cases hf0 : L.1 = 0
  · have hne : ((L.1 : Int) != 0) = false := by simp [bne]; exact hf0
    have HE := hide hf0
    clear hf0 g0 g1 h0 h1 h2 hoi
    have hc1 : (w1.alloc (.cells #[.int .i64 (L.1 : Int), .string L.2] 82)).cell? ⟨w1.heap.size, 1, none⟩ = some (.string L.2) := by
      rw [cell_of_row _ _ _ _ _ _ (heap_alloc_new w1 _)]; rfl
    have hc2 := hboxA.head.2.2
    by_cases hzz : L.2 = zeroB z
    · have hpe : putE L z = 0 := by unfold putE; rw [if_neg (fun h => h.2 hzz)]
      have hbb : (L.2.toList == (zeroB z).toList) = true := by rw [hzz]; simp
      have HP := hide hpe
      clear hpe hzz
      go_wp2_with fail
      go_region_held3 (fun w' => w'.cell? ⟨w1.heap.size, 1, none⟩ = some (.string L.2) ∧ w'.cell? ⟨p, 2, none⟩ = some (.int .i64 (z : Int)))
        (first | (exact ⟨hc1, hc2⟩) | (exact ⟨j0, j1⟩) | go_keep)
        (first
          | (go_at_call 88; refine (bnoughts_any z _ hz).mono ?_; rintro e w2 ⟨rfl, hb2⟩; have j0 := (hb2.cell (p := ⟨w1.heap.size, 1, none⟩) (by simp)).trans hc1; have j1 := (hb2.cell (p := ⟨p, 2, none⟩) (by simp; omega)).trans hc2))
      all_goals
        have hbx := hboxA.block (w' := w2) (hb2.block p (by simp; omega))
        have hbf : Below w.heap.size w w2 := hbA.drew.trans (Below.mono hb2 hbA.size)
        have hcg := Chg.of_below hbf (fun k => k = p)
        clear hb2 hbA hboxA hbox1 hb1 j0 j1 hc1 hc2 g2
        go_wp2_with fail
        go_ret
        exact ⟨by rw [HP.out]; rfl, by first | (rw [if_pos HE.out]; exact hbx) | exact hbx, hcg⟩
    · have hpe : putE L z = 4 := by unfold putE; rw [if_pos ⟨HE.out, hzz⟩]
      have hbb := beq_bytes hzz
      have HP := hide hpe
      clear hpe hzz
      go_wp2_with fail
      go_region_held3 (fun w' => w'.cell? ⟨w1.heap.size, 1, none⟩ = some (.string L.2) ∧ w'.cell? ⟨p, 2, none⟩ = some (.int .i64 (z : Int)))
        (first | (exact ⟨hc1, hc2⟩) | (exact ⟨j0, j1⟩) | go_keep)
        (first
          | (go_at_call 88; refine (bnoughts_any z _ hz).mono ?_; rintro e w2 ⟨rfl, hb2⟩; have j0 := (hb2.cell (p := ⟨w1.heap.size, 1, none⟩) (by simp)).trans hc1; have j1 := (hb2.cell (p := ⟨p, 2, none⟩) (by simp; omega)).trans hc2))
      all_goals
        have hbx := hboxA.block (w' := w2) (hb2.block p (by simp; omega))
        have hbf : Below w.heap.size w w2 := hbA.drew.trans (Below.mono hb2 hbA.size)
        have hcg := Chg.of_below hbf (fun k => k = p)
        clear hb2 hbA hboxA hbox1 hb1 j0 j1 hc1 hc2 g2
        go_wp2_with fail
        go_ret
        exact ⟨by rw [HP.out]; rfl, by first | (rw [if_pos HE.out]; exact hbx) | exact hbx, hcg⟩
  · have hne : ((L.1 : Int) != 0) = true := by simp [bne]; exact hf0
    have HE := hide hf0
    have hhi := highest_any L.1
    have ht20 : L.1.log2 < 20 := (Nat.log2_lt hf0).2 hlz
    have hpe : putE L z = 0 := by unfold putE; rw [if_neg (fun h => hf0 h.1)]
    have HP := hide hpe
    obtain ⟨q0, q1⟩ := hbox1.known ht20
    have f0 := hbox1.frozen (43 + L.1.log2 * 2)
    have f1 := hbox1.frozen (43 + L.1.log2 * 2 + 1)
    have hst := hbox1.store (t := L.1.log2) L
    have hst2 := hst.block (heap_alloc_old _ (.cells #[.int .i64 (L.1 : Int), .string L.2] 82) hst.lt)
    have hcg := ((((Chg.of_below hb1 (fun k => k = p)).setCell (a := ⟨p, 43 + L.1.log2 * 2, none⟩) (Or.inr rfl) (.int .i64 (L.1 : Int))).setCell (a := ⟨p, 43 + L.1.log2 * 2 + 1, none⟩) (Or.inr rfl) (.string L.2)).alloc (.cells #[.int .i64 (L.1 : Int), .string L.2] 82)).drew
    clear hst
    clear hpe g0 g1 h0 h1 h2 hoi
    go_wp2_with fail
    refine (hhi _ hlz hf0).mono ?_
    rintro e w2 ⟨rfl, rfl⟩
    have t1 : (0 : Int) ≤ (L.1.log2 : Int) := by omega
    have t2 : (L.1.log2 : Int) < 20 := by omega
    clear hhi hlz hf0
    go_wp2_with fail
    go_region
    all_goals
      clear q0 q1 f0 f1
      go_wp2_with fail
      go_ret
      exact ⟨by rw [HP.out]; rfl, by first | (rw [if_neg HE.out]; exact hst2) | exact hst2, hcg⟩

end Go.Proofs.YtnjaofkieajnlaaGreat
