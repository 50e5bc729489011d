/- The program's Mail. -/
import Derived.Test.YtnjaofkieajnlaaLMail3
namespace Go.Proofs.Ytnjaofkieajnlaa
open Go.RowKit

/-- What is asked of a large object, by the size. -/
structure MailMay (K M O S z : Nat) (t : ByteArray) (x : Nat) : Prop where
  spec : SpecOk K M O S z
  three : 3 ≤ K * z
  size : t.size ≤ 20 * (K * z - 2)
  order : x ≤ 65535

/-- The sheets, in the order that is drawn. -/
def mailT (K M O S z : Nat) (t : ByteArray) (x : Nat) : List ByteArray :=
  mixFrom ByteArray.empty x (sheetsTo K M O S z (partsN t (K * z - 2)) t (partsN t (K * z - 2))) ((sheetsTo K M O S z (partsN t (K * z - 2)) t (partsN t (K * z - 2))).length - 1)

theorem mailT_length (K M O S z : Nat) (t : ByteArray) (x : Nat) : (mailT K M O S z t x).length = partsN t (K * z - 2) * (K + M) := by
  unfold mailT
  rw [mixFrom_length, sheetsTo_length]

set_option maxRecDepth 100000 in
set_option maxHeartbeats 8000000 in
theorem lmail_ok (K M O S z : Nat) (t : ByteArray) (x : Nat) (w : World) (h : MailMay K M O S z t x) :
    Calls Try.prog 64 #[specV K M O S, .int .i64 (z : Int), .string t, .int .i64 (x : Int)] w fun e w' => ∃ v, e = .returned (.tuple #[v, .int .i64 0]) ∧ w'.ownsRow w.heap.size 9 1 v (mailT K M O S z t x).length (textV (mailT K M O S z t x)) ∧ Below w.heap.size w w' := by
  obtain ⟨hsk, h3, hts, hx⟩ := h
  obtain ⟨hK, hM, hO, hS, hz⟩ := id hsk
  have hN2 : K * z ≤ 320 := Nat.le_trans (Nat.mul_le_mul hK.2 hz.2) (by decide)
  have hmul : (K : Int) * (z : Int) - 2 = ((K * z - 2 : Nat) : Int) := by
    have : (K : Int) * (z : Int) = ((K * z : Nat) : Int) := by simp
    rw [this]; omega
  have hma := fun W => maybe_below K M O S W
  have hmay : mayB K M O S = true := by simp [mayB]; omega
  rw [hmay] at hma
  have hro := fun W => room_any K z W hK.2 hz.2
  rw [hmul] at hro
  have hcu := fun W => lcut_any t (K * z - 2) W (by omega) (by omega)
  have hp20 : partsN t (K * z - 2) ≤ 20 := (partsN_le (by omega) (by omega)).2 hts
  have hp1 := partsN_pos t (K * z - 2) (by omega)
  have hsh := fun v W hL => lsheets_any K M O S z t (partsN t (K * z - 2)) v W hsk h3 rfl hp20 hL
  have hlen := sheetsTo_length K M O S z (partsN t (K * z - 2)) t (partsN t (K * z - 2))
  have hcl := cutL_length t (K * z - 2) (partsN t (K * z - 2))
  have hlb : partsN t (K * z - 2) * (K + M) ≤ 800 := Nat.le_trans (Nat.mul_le_mul hp20 (show K + M ≤ 40 by omega)) (by decide)
  have hl1 : 1 ≤ partsN t (K * z - 2) * (K + M) := Nat.mul_pos (by omega) (by omega)
  have hml := mailT_length K M O S z t x
  have hmx := fun v W hL => lshuf_any v (sheetsTo K M O S z (partsN t (K * z - 2)) t (partsN t (K * z - 2))) x W hL (by omega) (by omega)
  have hmt : mixFrom ByteArray.empty x (sheetsTo K M O S z (partsN t (K * z - 2)) t (partsN t (K * z - 2))) ((sheetsTo K M O S z (partsN t (K * z - 2)) t (partsN t (K * z - 2))).length - 1) = mailT K M O S z t x := rfl
  rw [hmt, hlen] at hmx
  rw [hml]
  have n1 : ¬ ((K * z - 2 : Nat) : Int) < 1 := by omega
  have n2 : ¬ 20 * ((K * z - 2 : Nat) : Int) < (t.size : Int) := by omega
  have n3 : ((K * z - 2 : Nat) : Int) ≤ 318 := by omega
  have n4 : 0 ≤ ((K * z - 2 : Nat) : Int) := by omega
  clear hmul hmt hml hmay hts h3 hN2 hp1
  generalize mailT K M O S z t x = R at *
  generalize hc : partsN t (K * z - 2) = c at *
  clear hc
  generalize hn : K * z - 2 = n at *
  clear hn
  generalize hD : sheetsTo K M O S z c t c = D at *
  generalize hC : cutL t n c = C at *
  clear hD hC
  obtain ⟨N, hN⟩ : ∃ N, N = c * (K + M) := ⟨_, rfl⟩
  rw [← hN] at hlen hsh hmx hlb hl1 ⊢
  clear hN
  have hsp : (w.alloc (specB K M O S)).heap[w.heap.size]? = some (specB K M O S) := heap_alloc_new w _
  have hbA : Below w.heap.size w (w.alloc (specB K M O S)) := (Below.refl _ _).alloc (Nat.le_refl _) _
  have z1 : ¬ (z : Int) < 1 := by omega
  have z2 : ¬ (16 : Int) < (z : Int) := by omega
  have o1 : ¬ (x : Int) < 0 := by omega
  have o2 : ¬ (65535 : Int) < (x : Int) := by omega
  have HL := hide hlen
  have HC := hide hcl
  clear hlen hcl
  go_enter Try.func64, Try.ntmps64
  go_wp2_with fail
  refine (hma _).mono ?_
  rintro e w1 ⟨rfl, hb1⟩
  have hs1 := block_on hsp hb1
  have hbw1 := hbA.trans (hb1.mono hbA.size)
  clear hsp hbA hb1 hma
  obtain ⟨c0, c1, c2, c3⟩ := spec_cells hs1
  go_wp2_with fail
  refine (hro _).mono ?_
  rintro e w1r ⟨rfl, hr⟩
  obtain rfl := hr.symm
  clear hro
  go_wp2_with fail
  refine (hcu _).mono ?_
  rintro e w2 ⟨v2, rfl, hown2, hb2⟩
  have hs2 := block_on hs1 hb2
  have hbw2 := hbw1.trans (hb2.mono hbw1.size)
  clear hs1 hb2 hcu c0 c1 c2 c3 hbw1
  have htx2 := owns_texts hown2 HC.out.symm
  clear hown2
  obtain ⟨c0, c1, c2, c3⟩ := spec_cells hs2
  go_wp2_with fail
  refine (hsh _ _ htx2).mono ?_
  rintro e w3 ⟨v3, rfl, hown3, hb3⟩
  have hbw3 := hbw2.trans (hb3.mono hbw2.size)
  have htx3 := owns_texts hown3 HL.out.symm
  clear hs2 hb3 hsh hown3 hbw2 htx2 c0 c1 c2 c3
  go_wp2_with fail
  refine (hmx _ _ htx3).mono ?_
  rintro e w4 ⟨v4, rfl, hown4, hb4⟩
  have hend := hbw3.trans (hb4.mono hbw3.size)
  have hown5 := owns_low hown4 hbw3.size
  clear hmx htx3 hown4 hb4 hbw3
  go_wp2_with fail
  go_ret2
  exact ⟨_, rfl, hown5, hend⟩

set_option maxRecDepth 100000 in
set_option maxHeartbeats 4000000 in
theorem lmail_bad (K M O S z x : Int) (t : ByteArray) (w : World) (hmay : mayB K M O S = false) :
    Calls Try.prog 64 #[specV K M O S, .int .i64 z, .string t, .int .i64 x] w fun e w' => e = .returned (.tuple #[.slice none 0 0, .int .i64 1]) ∧ Below w.heap.size w w' := by
  have hma := fun W => maybe_below K M O S W
  rw [hmay] at hma
  go_enter Try.func64, Try.ntmps64
  go_wp2_with fail
  refine (hma _).mono ?_
  rintro e w1 ⟨rfl, hb1⟩
  have hbw1 : Below w.heap.size w w1 := ((Below.refl _ _).alloc (Nat.le_refl _) _).trans (hb1.mono (by simp))
  go_wp2_with fail
  go_ret2
  exact ⟨rfl, hbw1⟩

set_option maxRecDepth 100000 in
set_option maxHeartbeats 4000000 in
theorem lmail_arg (K M O S z x : Int) (t : ByteArray) (w : World) (hmay : mayB K M O S = true) (h : z < 1 ∨ 16 < z ∨ x < 0 ∨ 65535 < x) :
    Calls Try.prog 64 #[specV K M O S, .int .i64 z, .string t, .int .i64 x] w fun e w' => e = .returned (.tuple #[.slice none 0 0, .int .i64 2]) ∧ Below w.heap.size w w' := by
  have hma := fun W => maybe_below K M O S W
  rw [hmay] at hma
  have hor : z < 1 ∨ (¬ z < 1 ∧ 16 < z) ∨ (¬ z < 1 ∧ ¬ 16 < z ∧ x < 0) ∨ (¬ z < 1 ∧ ¬ 16 < z ∧ ¬ x < 0 ∧ 65535 < x) := by omega
  clear h hmay
  go_enter Try.func64, Try.ntmps64
  go_wp2_with fail
  refine (hma _).mono ?_
  rintro e w1 ⟨rfl, hb1⟩
  have hbw1 : Below w.heap.size w w1 := ((Below.refl _ _).alloc (Nat.le_refl _) _).trans (hb1.mono (by simp))
  clear hma hb1
  rcases hor with h1 | ⟨h1, h2⟩ | ⟨h1, h2, h3⟩ | ⟨h1, h2, h3, h4⟩
  all_goals
    go_wp2_with fail
    go_ret2
    exact ⟨rfl, hbw1⟩

set_option maxRecDepth 100000 in
set_option maxHeartbeats 4000000 in
theorem lmail_shape (K M O S z : Nat) (t : ByteArray) (x : Nat) (w : World) (hmay : mayB K M O S = true) (hz : 1 ≤ z ∧ z ≤ 16) (hx : x ≤ 65535) (h : K * z < 3 ∨ (3 ≤ K * z ∧ 20 * (K * z - 2) < t.size)) :
    Calls Try.prog 64 #[specV K M O S, .int .i64 (z : Int), .string t, .int .i64 (x : Int)] w fun e w' => e = .returned (.tuple #[.slice none 0 0, .int .i64 3]) ∧ Below w.heap.size w w' := by
  have hKK := mayB_true hmay
  have hK : 1 ≤ K ∧ K ≤ 20 := by omega
  have hma := fun W => maybe_below K M O S W
  rw [hmay] at hma
  have hro := fun W => room_any K z W hK.2 hz.2
  have hN2 : K * z ≤ 320 := Nat.le_trans (Nat.mul_le_mul hK.2 hz.2) (by decide)
  have hN1 : 1 ≤ K * z := Nat.mul_pos (by omega) (by omega)
  have hmul : (K : Int) * (z : Int) = ((K * z : Nat) : Int) := by simp
  rw [hmul] at hro
  have hsp : (w.alloc (specB K M O S)).heap[w.heap.size]? = some (specB K M O S) := heap_alloc_new w _
  have hbA : Below w.heap.size w (w.alloc (specB K M O S)) := (Below.refl _ _).alloc (Nat.le_refl _) _
  have z1 : ¬ (z : Int) < 1 := by omega
  have z2 : ¬ (16 : Int) < (z : Int) := by omega
  have o1 : ¬ (x : Int) < 0 := by omega
  have o2 : ¬ (65535 : Int) < (x : Int) := by omega
  clear hmul hmay hKK
  rcases h with h | ⟨h3, h⟩
  · obtain ⟨r, hr⟩ : ∃ r : Int, r = ((K * z : Nat) : Int) - 2 := ⟨_, rfl⟩
    have n1 : r < 1 := by omega
    rw [← hr] at hro
    clear hr h hN2 hN1
    go_enter Try.func64, Try.ntmps64
    go_wp2_with fail
    refine (hma _).mono ?_
    rintro e w1 ⟨rfl, hb1⟩
    have hs1 := block_on hsp hb1
    have hbw1 := hbA.trans (hb1.mono hbA.size)
    clear hsp hbA hb1 hma
    obtain ⟨c0, c1, c2, c3⟩ := spec_cells hs1
    go_wp2_with fail
    refine (hro _).mono ?_
    rintro e w1r ⟨rfl, hr⟩
    obtain rfl := hr.symm
    go_wp2_with fail
    go_ret2
    exact ⟨rfl, hbw1⟩
  · obtain ⟨r, hr⟩ : ∃ r : Int, r = ((K * z : Nat) : Int) - 2 := ⟨_, rfl⟩
    have n1 : ¬ r < 1 := by omega
    have n2 : 20 * r < (t.size : Int) := by omega
    have n3 : r ≤ 318 := by omega
    have n4 : 0 ≤ r := by omega
    rw [← hr] at hro
    clear hr h hN2 hN1 h3
    go_enter Try.func64, Try.ntmps64
    go_wp2_with fail
    refine (hma _).mono ?_
    rintro e w1 ⟨rfl, hb1⟩
    have hs1 := block_on hsp hb1
    have hbw1 := hbA.trans (hb1.mono hbA.size)
    clear hsp hbA hb1 hma
    obtain ⟨c0, c1, c2, c3⟩ := spec_cells hs1
    go_wp2_with fail
    refine (hro _).mono ?_
    rintro e w1r ⟨rfl, hr⟩
    obtain rfl := hr.symm
    go_wp2_with fail
    go_ret2
    exact ⟨rfl, hbw1⟩

set_option maxRecDepth 100000 in
set_option maxHeartbeats 4000000 in
theorem mail_ok (K M O S z : Nat) (t : ByteArray) (x : Nat) (w : World) (h : MailMay K M O S z t x) :
    Calls Try.prog 43 #[specV K M O S, .int .i64 (z : Int), .string t, .int .i64 (x : Int)] w fun e w' => ∃ v, e = .returned (.tuple #[v, .int .i64 0]) ∧ w'.ownsRow w.heap.size 9 1 v (mailT K M O S z t x).length (textV (mailT K M O S z t x)) ∧ Below w.heap.size w w' := by
  have hse := fun W => lmail_ok K M O S z t x W h
  generalize mailT K M O S z t x = L at *
  have hbA : Below w.heap.size w (w.alloc (specB K M O S)) := (Below.refl _ _).alloc (Nat.le_refl _) _
  go_enter Try.func43, Try.ntmps43
  go_wp2_with fail
  refine (hse _).mono ?_
  rintro e w1 ⟨v, rfl, hown, hb1⟩
  have hown1 := owns_low hown hbA.size
  have hbw1 := hbA.trans (hb1.mono hbA.size)
  clear hown hse hbA hb1
  go_wp2_with fail
  go_ret2
  exact ⟨_, rfl, hown1, hbw1⟩

set_option maxRecDepth 100000 in
set_option maxHeartbeats 4000000 in
theorem mail_err (K M O S z x n : Int) (t : ByteArray) (w : World) (hse : ∀ W, Calls Try.prog 64 #[specV K M O S, .int .i64 z, .string t, .int .i64 x] W fun e w' => e = .returned (.tuple #[.slice none 0 0, .int .i64 n]) ∧ Below W.heap.size W w') :
    Calls Try.prog 43 #[specV K M O S, .int .i64 z, .string t, .int .i64 x] w fun e w' => e = .returned (.tuple #[.slice none 0 0, .int .i64 n]) ∧ Below w.heap.size w w' := by
  have hbA : Below w.heap.size w (w.alloc (.cells #[.int .i64 K, .int .i64 M, .int .i64 O, .int .i64 S] 23)) := (Below.refl _ _).alloc (Nat.le_refl _) _
  go_enter Try.func43, Try.ntmps43
  go_wp2_with fail
  refine (hse _).mono ?_
  rintro e w1 ⟨rfl, hb1⟩
  have hbw1 := hbA.trans (hb1.mono hbA.size)
  clear hse hbA hb1
  go_wp2_with fail
  go_ret2
  exact ⟨rfl, hbw1⟩

end Go.Proofs.Ytnjaofkieajnlaa
