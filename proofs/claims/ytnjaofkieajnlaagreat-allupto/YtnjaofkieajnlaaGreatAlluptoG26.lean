/- Texts of the proof, part 27. -/
import Derived.BigRegion
import Derived.Deep.RegionHeld3
import Derived.Test.YtnjaofkieajnlaaGreatAlluptoG10
import Derived.Test.YtnjaofkieajnlaaGreatAlluptoG25
import Derived.Test.YtnjaofkieajnlaaGreatAlluptoG9

/- The program's Mail. -/
namespace Go.Proofs.YtnjaofkieajnlaaGreat
open Go.RowKit

/-- What is asked of a large object, by the size. -/
structure MailMay (K M O S z : Nat) (t : ByteArray) (x : Nat) : Prop where
  spec : SpecOk K M O S z
  three : 3 ≤ K * z
  size : t.size ≤ 20 * (K * z - 2)
  order : x ≤ 65535

/-- The sheets, in the order that is drawn. -/
def mailT (K M O S z : Nat) (t : ByteArray) (x : Nat) : List ByteArray :=
  mixFrom ByteArray.empty x (sheetsTo K M O S z (partsN t (K * z - 2)) t (partsN t (K * z - 2))) ((sheetsTo K M O S z (partsN t (K * z - 2)) t (partsN t (K * z - 2))).length - 1)

theorem mailT_length (K M O S z : Nat) (t : ByteArray) (x : Nat) : (mailT K M O S z t x).length = partsN t (K * z - 2) * (K + M) := by
  unfold mailT
  rw [mixFrom_length, sheetsTo_length]

set_option maxRecDepth 100000 in
set_option maxHeartbeats 8000000 in
theorem lmail_ok (K M O S z : Nat) (t : ByteArray) (x : Nat) (w : World) (h : MailMay K M O S z t x) :
    Calls Tryz.prog 108 #[specV K M O S, .int .i64 (z : Int), .string t, .int .i64 (x : Int)] w fun e w' => ∃ v, e = .returned (.tuple #[v, .int .i64 0]) ∧ w'.ownsRow w.heap.size 9 1 v (mailT K M O S z t x).length (textV (mailT K M O S z t x)) ∧ Below w.heap.size w w' := by
  obtain ⟨hsk, h3, hts, hx⟩ := h
  obtain ⟨hK, hM, hO, hS, hz⟩ := id hsk
  have hN2 : K * z ≤ 320 := Nat.le_trans (Nat.mul_le_mul hK.2 hz.2) (by decide)
  have hmul : (K : Int) * (z : Int) - 2 = ((K * z - 2 : Nat) : Int) := by
    have : (K : Int) * (z : Int) = ((K * z : Nat) : Int) := by simp
    rw [this]; omega
  have hma := fun W => maybe_below K M O S W
  have hmay : mayB K M O S = true := by simp [mayB]; omega
  rw [hmay] at hma
  have hro := fun W => room_any K z W hK.2 hz.2
  rw [hmul] at hro
  have hcu := fun W => lcut_any t (K * z - 2) W (by omega) (by omega)
  have hp20 : partsN t (K * z - 2) ≤ 20 := (partsN_le (by omega) (by omega)).2 hts
  have hp1 := partsN_pos t (K * z - 2) (by omega)
  have hsh := fun v W hL => lsheets_any K M O S z t (partsN t (K * z - 2)) v W hsk h3 rfl hp20 hL
  have hlen := sheetsTo_length K M O S z (partsN t (K * z - 2)) t (partsN t (K * z - 2))
  have hcl := cutL_length t (K * z - 2) (partsN t (K * z - 2))
  have hlb : partsN t (K * z - 2) * (K + M) ≤ 800 := Nat.le_trans (Nat.mul_le_mul hp20 (show K + M ≤ 40 by omega)) (by decide)
  have hl1 : 1 ≤ partsN t (K * z - 2) * (K + M) := Nat.mul_pos (by omega) (by omega)
  have hml := mailT_length K M O S z t x
  have hmx := fun v W hL => lshuf_any v (sheetsTo K M O S z (partsN t (K * z - 2)) t (partsN t (K * z - 2))) x W hL (by omega) (by omega)
  have hmt : mixFrom ByteArray.empty x (sheetsTo K M O S z (partsN t (K * z - 2)) t (partsN t (K * z - 2))) ((sheetsTo K M O S z (partsN t (K * z - 2)) t (partsN t (K * z - 2))).length - 1) = mailT K M O S z t x := rfl
  rw [hmt, hlen] at hmx
  rw [hml]
  have n1 : ¬ ((K * z - 2 : Nat) : Int) < 1 := by omega
  have n2 : ¬ 20 * ((K * z - 2 : Nat) : Int) < (t.size : Int) := by omega
  have n3 : ((K * z - 2 : Nat) : Int) ≤ 318 := by omega
  have n4 : 0 ≤ ((K * z - 2 : Nat) : Int) := by omega
  clear hmul hmt hml hmay hts h3 hN2 hp1
  generalize mailT K M O S z t x = R at *
  generalize hc : partsN t (K * z - 2) = c at *
  clear hc
  generalize hn : K * z - 2 = n at *
  clear hn
  generalize hD : sheetsTo K M O S z c t c = D at *
  generalize hC : cutL t n c = C at *
  clear hD hC
  obtain ⟨N, hN⟩ : ∃ N, N = c * (K + M) := ⟨_, rfl⟩
  rw [← hN] at hlen hsh hmx hlb hl1 ⊢
  clear hN
  have hsp : (w.alloc (specB K M O S)).heap[w.heap.size]? = some (specB K M O S) := heap_alloc_new w _
  have hbA : Below w.heap.size w (w.alloc (specB K M O S)) := (Below.refl _ _).alloc (Nat.le_refl _) _
  have z1 : ¬ (z : Int) < 1 := by omega
  have z2 : ¬ (16 : Int) < (z : Int) := by omega
  have o1 : ¬ (x : Int) < 0 := by omega
  have o2 : ¬ (65535 : Int) < (x : Int) := by omega
  have HL := hide hlen
  have HC := hide hcl
  clear hlen hcl
  go_enter Tryz.func108, Tryz.ntmps108
  go_wp2_with fail
  refine (hma _).mono ?_
  rintro e w1 ⟨rfl, hb1⟩
  have hs1 := block_on hsp hb1
  have hbw1 := hbA.trans (hb1.mono hbA.size)
  clear hsp hbA hb1 hma
  obtain ⟨c0, c1, c2, c3⟩ := spec_cells hs1
  go_wp2_with fail
  refine (hro _).mono ?_
  rintro e w1r ⟨rfl, hr⟩
  obtain rfl := hr.symm
  clear hro
  go_wp2_with fail
  refine (hcu _).mono ?_
  rintro e w2 ⟨v2, rfl, hown2, hb2⟩
  have hs2 := block_on hs1 hb2
  have hbw2 := hbw1.trans (hb2.mono hbw1.size)
  clear hs1 hb2 hcu c0 c1 c2 c3 hbw1
  have htx2 := owns_texts hown2 HC.out.symm
  clear hown2
  obtain ⟨c0, c1, c2, c3⟩ := spec_cells hs2
  go_wp2_with fail
  refine (hsh _ _ htx2).mono ?_
  rintro e w3 ⟨v3, rfl, hown3, hb3⟩
  have hbw3 := hbw2.trans (hb3.mono hbw2.size)
  have htx3 := owns_texts hown3 HL.out.symm
  clear hs2 hb3 hsh hown3 hbw2 htx2 c0 c1 c2 c3
  go_wp2_with fail
  refine (hmx _ _ htx3).mono ?_
  rintro e w4 ⟨v4, rfl, hown4, hb4⟩
  have hend := hbw3.trans (hb4.mono hbw3.size)
  have hown5 := owns_low hown4 hbw3.size
  clear hmx htx3 hown4 hb4 hbw3
  go_wp2_with fail
  go_ret2
  exact ⟨_, rfl, hown5, hend⟩

set_option maxRecDepth 100000 in
set_option maxHeartbeats 4000000 in
theorem lmail_bad (K M O S z x : Int) (t : ByteArray) (w : World) (hmay : mayB K M O S = false) :
    Calls Tryz.prog 108 #[specV K M O S, .int .i64 z, .string t, .int .i64 x] w fun e w' => e = .returned (.tuple #[.slice none 0 0, .int .i64 1]) ∧ Below w.heap.size w w' := by
  have hma := fun W => maybe_below K M O S W
  rw [hmay] at hma
  go_enter Tryz.func108, Tryz.ntmps108
  go_wp2_with fail
  refine (hma _).mono ?_
  rintro e w1 ⟨rfl, hb1⟩
  have hbw1 : Below w.heap.size w w1 := ((Below.refl _ _).alloc (Nat.le_refl _) _).trans (hb1.mono (by simp))
  go_wp2_with fail
  go_ret2
  exact ⟨rfl, hbw1⟩

set_option maxRecDepth 100000 in
set_option maxHeartbeats 4000000 in
theorem lmail_arg (K M O S z x : Int) (t : ByteArray) (w : World) (hmay : mayB K M O S = true) (h : z < 1 ∨ 16 < z ∨ x < 0 ∨ 65535 < x) :
    Calls Tryz.prog 108 #[specV K M O S, .int .i64 z, .string t, .int .i64 x] w fun e w' => e = .returned (.tuple #[.slice none 0 0, .int .i64 2]) ∧ Below w.heap.size w w' := by
  have hma := fun W => maybe_below K M O S W
  rw [hmay] at hma
  have hor : z < 1 ∨ (¬ z < 1 ∧ 16 < z) ∨ (¬ z < 1 ∧ ¬ 16 < z ∧ x < 0) ∨ (¬ z < 1 ∧ ¬ 16 < z ∧ ¬ x < 0 ∧ 65535 < x) := by omega
  clear h hmay
  go_enter Tryz.func108, Tryz.ntmps108
  go_wp2_with fail
  refine (hma _).mono ?_
  rintro e w1 ⟨rfl, hb1⟩
  have hbw1 : Below w.heap.size w w1 := ((Below.refl _ _).alloc (Nat.le_refl _) _).trans (hb1.mono (by simp))
  clear hma hb1
  rcases hor with h1 | ⟨h1, h2⟩ | ⟨h1, h2, h3⟩ | ⟨h1, h2, h3, h4⟩
  all_goals
    go_wp2_with fail
    go_ret2
    exact ⟨rfl, hbw1⟩

set_option maxRecDepth 100000 in
set_option maxHeartbeats 4000000 in
theorem lmail_shape (K M O S z : Nat) (t : ByteArray) (x : Nat) (w : World) (hmay : mayB K M O S = true) (hz : 1 ≤ z ∧ z ≤ 16) (hx : x ≤ 65535) (h : K * z < 3 ∨ (3 ≤ K * z ∧ 20 * (K * z - 2) < t.size)) :
    Calls Tryz.prog 108 #[specV K M O S, .int .i64 (z : Int), .string t, .int .i64 (x : Int)] w fun e w' => e = .returned (.tuple #[.slice none 0 0, .int .i64 3]) ∧ Below w.heap.size w w' := by
  have hKK := mayB_true hmay
  have hK : 1 ≤ K ∧ K ≤ 20 := by omega
  have hma := fun W => maybe_below K M O S W
  rw [hmay] at hma
  have hro := fun W => room_any K z W hK.2 hz.2
  have hN2 : K * z ≤ 320 := Nat.le_trans (Nat.mul_le_mul hK.2 hz.2) (by decide)
  have hN1 : 1 ≤ K * z := Nat.mul_pos (by omega) (by omega)
  have hmul : (K : Int) * (z : Int) = ((K * z : Nat) : Int) := by simp
  rw [hmul] at hro
  have hsp : (w.alloc (specB K M O S)).heap[w.heap.size]? = some (specB K M O S) := heap_alloc_new w _
  have hbA : Below w.heap.size w (w.alloc (specB K M O S)) := (Below.refl _ _).alloc (Nat.le_refl _) _
  have z1 : ¬ (z : Int) < 1 := by omega
  have z2 : ¬ (16 : Int) < (z : Int) := by omega
  have o1 : ¬ (x : Int) < 0 := by omega
  have o2 : ¬ (65535 : Int) < (x : Int) := by omega
  clear hmul hmay hKK
  rcases h with h | ⟨h3, h⟩
  · obtain ⟨r, hr⟩ : ∃ r : Int, r = ((K * z : Nat) : Int) - 2 := ⟨_, rfl⟩
    have n1 : r < 1 := by omega
    rw [← hr] at hro
    clear hr h hN2 hN1
    go_enter Tryz.func108, Tryz.ntmps108
    go_wp2_with fail
    refine (hma _).mono ?_
    rintro e w1 ⟨rfl, hb1⟩
    have hs1 := block_on hsp hb1
    have hbw1 := hbA.trans (hb1.mono hbA.size)
    clear hsp hbA hb1 hma
    obtain ⟨c0, c1, c2, c3⟩ := spec_cells hs1
    go_wp2_with fail
    refine (hro _).mono ?_
    rintro e w1r ⟨rfl, hr⟩
    obtain rfl := hr.symm
    go_wp2_with fail
    go_ret2
    exact ⟨rfl, hbw1⟩
  · obtain ⟨r, hr⟩ : ∃ r : Int, r = ((K * z : Nat) : Int) - 2 := ⟨_, rfl⟩
    have n1 : ¬ r < 1 := by omega
    have n2 : 20 * r < (t.size : Int) := by omega
    have n3 : r ≤ 318 := by omega
    have n4 : 0 ≤ r := by omega
    rw [← hr] at hro
    clear hr h hN2 hN1 h3
    go_enter Tryz.func108, Tryz.ntmps108
    go_wp2_with fail
    refine (hma _).mono ?_
    rintro e w1 ⟨rfl, hb1⟩
    have hs1 := block_on hsp hb1
    have hbw1 := hbA.trans (hb1.mono hbA.size)
    clear hsp hbA hb1 hma
    obtain ⟨c0, c1, c2, c3⟩ := spec_cells hs1
    go_wp2_with fail
    refine (hro _).mono ?_
    rintro e w1r ⟨rfl, hr⟩
    obtain rfl := hr.symm
    go_wp2_with fail
    go_ret2
    exact ⟨rfl, hbw1⟩

set_option maxRecDepth 100000 in
set_option maxHeartbeats 4000000 in
theorem mail_ok (K M O S z : Nat) (t : ByteArray) (x : Nat) (w : World) (h : MailMay K M O S z t x) :
    Calls Tryz.prog 79 #[specV K M O S, .int .i64 (z : Int), .string t, .int .i64 (x : Int)] w fun e w' => ∃ v, e = .returned (.tuple #[v, .int .i64 0]) ∧ w'.ownsRow w.heap.size 9 1 v (mailT K M O S z t x).length (textV (mailT K M O S z t x)) ∧ Below w.heap.size w w' := by
  have hse := fun W => lmail_ok K M O S z t x W h
  generalize mailT K M O S z t x = L at *
  have hbA : Below w.heap.size w (w.alloc (specB K M O S)) := (Below.refl _ _).alloc (Nat.le_refl _) _
  go_enter Tryz.func79, Tryz.ntmps79
  go_wp2_with fail
  refine (hse _).mono ?_
  rintro e w1 ⟨v, rfl, hown, hb1⟩
  have hown1 := owns_low hown hbA.size
  have hbw1 := hbA.trans (hb1.mono hbA.size)
  clear hown hse hbA hb1
  go_wp2_with fail
  go_ret2
  exact ⟨_, rfl, hown1, hbw1⟩

set_option maxRecDepth 100000 in
set_option maxHeartbeats 4000000 in
theorem mail_err (K M O S z x n : Int) (t : ByteArray) (w : World) (hse : ∀ W, Calls Tryz.prog 108 #[specV K M O S, .int .i64 z, .string t, .int .i64 x] W fun e w' => e = .returned (.tuple #[.slice none 0 0, .int .i64 n]) ∧ Below W.heap.size W w') :
    Calls Tryz.prog 79 #[specV K M O S, .int .i64 z, .string t, .int .i64 x] w fun e w' => e = .returned (.tuple #[.slice none 0 0, .int .i64 n]) ∧ Below w.heap.size w w' := by
  have hbA : Below w.heap.size w (w.alloc (.cells #[.int .i64 K, .int .i64 M, .int .i64 O, .int .i64 S] 25)) := (Below.refl _ _).alloc (Nat.le_refl _) _
  go_enter Tryz.func79, Tryz.ntmps79
  go_wp2_with fail
  refine (hse _).mono ?_
  rintro e w1 ⟨rfl, hb1⟩
  have hbw1 := hbA.trans (hb1.mono hbA.size)
  clear hse hbA hb1
  go_wp2_with fail
  go_ret2
  exact ⟨rfl, hbw1⟩

end Go.Proofs.YtnjaofkieajnlaaGreat

/- The document's own Mail: Parts, part, mixed. -/
namespace Go.Proofs.YtnjaofkieajnlaaGreat
open Go.RowKit

theorem empty_bytes {t : ByteArray} (h : t.size = 0) : t = ⟨#[]⟩ := bytes_ext (by rw [h]; rfl) (fun i hi => by omega)

set_option maxRecDepth 100000 in
set_option maxHeartbeats 1000000 in
theorem rparts_any (t : ByteArray) (n : Nat) (w : World) (hn : 1 ≤ n ∧ n ≤ 1000) (ht : t.size ≤ 1125899906842624) :
    Calls Tryz.prog 66 #[.string t, .int .i64 (n : Int)] w fun e w' => e = .returned (.int .i64 (partsN t n : Int)) ∧ w' = w := by
  by_cases h0 : t.size = 0
  · have ht0 := empty_bytes h0
    have hp : partsN t n = 1 := by unfold partsN; rw [if_pos h0]
    have Hp := hide hp
    subst ht0
    clear hp
    go_enter Tryz.func66, Tryz.ntmps66
    go_wp2_with fail
    go_ret
    exact ⟨by rw [Hp.out]; rfl, rfl⟩
  · have hne : t ≠ ⟨#[]⟩ := fun e => h0 (by rw [e]; rfl)
    have hb : t.toList.isEmpty = false := by
      have hbb := beq_bytes hne
      rw [show (ByteArray.mk #[]).toList = [] from by kernel_rfl] at hbb
      cases hx : t.toList with
      | nil => rw [hx] at hbb; simp at hbb
      | cons a b => rfl
    have hp : partsN t n = (t.size + n - 1) / n := by unfold partsN; rw [if_neg h0]
    have Hp := hide hp
    have hn0 : ((n : Int) == 0) = false := beq_eq_false_iff_ne.2 (by omega)
    clear hp hne
    go_enter Tryz.func66, Tryz.ntmps66
    go_wp2_with fail
    go_ret
    refine ⟨?_, rfl⟩
    rw [Hp.out]
    refine ret_int ?_
    rw [Int.natCast_ediv]
    congr 1
    omega

set_option maxRecDepth 100000 in
set_option maxHeartbeats 1000000 in
theorem rpart_any (t : ByteArray) (n p : Nat) (w : World) (hn : 1 ≤ n ∧ n ≤ 1000) (hp : p ≤ 20) (hpn : p * n ≤ t.size) (ht : t.size ≤ 1125899906842624) :
    Calls Tryz.prog 67 #[.string t, .int .i64 (n : Int), .int .i64 (p : Int)] w fun e w' => e = .returned (.string (partT t n p)) ∧ w' = w := by
  have hc : (p : Int) * (n : Int) = ((p * n : Nat) : Int) := by simp
  have hb : p * n ≤ 20000 := Nat.mul_le_mul hp hn.2
  have c1 : 0 ≤ (p : Int) * (n : Int) := by rw [hc]; omega
  have c2 : (p : Int) * (n : Int) ≤ 20000 := by rw [hc]; omega
  have c3 : (p : Int) * (n : Int) ≤ (t.size : Int) := by rw [hc]; omega
  have Hc := hide hc
  clear hc
  by_cases hlt : (t.size : Int) < (p : Int) * (n : Int) + (n : Int)
  · have hpt : partT t n p = t.extract (p * n) t.size := by unfold partT; rw [if_pos (by have := Hc.out; omega)]
    have Hpt := hide hpt
    clear hpt
    go_enter Tryz.func67, Tryz.ntmps67
    go_wp2_with fail
    go_ret
    refine ⟨?_, rfl⟩
    rw [Hpt.out]
    simp
  · have hpt : partT t n p = t.extract (p * n) (p * n + n) := by unfold partT; rw [if_neg (by have := Hc.out; omega)]
    have Hpt := hide hpt
    clear hpt
    go_enter Tryz.func67, Tryz.ntmps67
    go_wp2_with fail
    go_ret
    refine ⟨?_, rfl⟩
    rw [Hpt.out]
    simp

theorem run_make_ints (n : Nat) (hn : n ≤ 1000000) (w : World) : (Instr.makeSlice 63 (.int .i64 (n : Int)) (.int .i64 (n : Int))).run Tryz.prog w = .ok (.slice (some ⟨w.heap.size, 0, none⟩) n n) (w.alloc (.cells (madeCells #[.int .i64 0] n) 3)) := by
  obtain ⟨i, hi, hzz⟩ := Option.map_eq_some_iff.1 Tryz.infoInt
  simp only [Prod.mk.injEq] at hzz
  obtain ⟨hz, hs, hb⟩ := hzz
  have h := run_make (P := Tryz.prog) w 63 3 i (.int .i64 0) Tryz.underlying63 hi hz .i64 .i64 (n : Int) (n : Int) (by omega) (by omega) (by rw [hb]; omega) (by omega)
  simp only [Int.toNat_natCast, hs, Nat.mul_one] at h
  exact h

theorem swapL_getD (l : List Nat) (i j k : Nat) (hi : i < l.length) (hj : j < l.length) : (swapL l 0 i j).getD k 0 = if k = j then l.getD i 0 else if k = i then l.getD j 0 else l.getD k 0 := by
  unfold swapL
  simp only [List.getD_eq_getElem?_getD]
  by_cases e : k = j
  · subst e
    rw [if_pos rfl, List.getElem?_set_self (by simpa using hj)]; rfl
  · rw [if_neg e, List.getElem?_set_ne (fun h => e h.symm)]
    by_cases e2 : k = i
    · subst e2
      rw [if_pos rfl, List.getElem?_set_self hi]; rfl
    · rw [if_neg e2, List.getElem?_set_ne (fun h => e2 h.symm)]

theorem nxt_le (x : Nat) : nxt x ≤ 65536 := by unfold nxt; omega

/-- Numbers in a row of the call's own. -/
def NumsIn (w : World) (g : Nat) (A : List Nat) : Prop := w.rowIs g 3 A.length (fun i => .int .i64 ((A.getD i 0 : Nat) : Int))

theorem NumsIn.swap {w : World} {g : Nat} {A : List Nat} (h : NumsIn w g A) {i j : Nat} (hi : i < A.length) (hj : j < A.length) : NumsIn ((w.setCell ⟨g, i, none⟩ (.int .i64 ((A.getD j 0 : Nat) : Int))).setCell ⟨g, j, none⟩ (.int .i64 ((A.getD i 0 : Nat) : Int))) g (swapL A 0 i j) := by
  unfold NumsIn at h ⊢
  rw [swapL_length]
  refine ((World.rowIs.set h i _).set j _).congr (fun k _ => ?_)
  rw [swapL_getD A i j k hi hj]
  by_cases e : k = j
  · rw [if_pos e, if_pos e]
  · rw [if_neg e, if_neg e]
    by_cases e2 : k = i
    · rw [if_pos e2, if_pos e2]
    · rw [if_neg e2, if_neg e2]

set_option maxRecDepth 100000 in
set_option maxHeartbeats 8000000 in
theorem rmixed_any (v : Value) (L : List ByteArray) (x0 : Nat) (w : World) (hL : TextsAt w v L) (hl : 1 ≤ L.length ∧ L.length ≤ 1000) (hx0 : x0 ≤ 65536) :
    Calls Tryz.prog 109 #[v, .int .i64 (x0 : Int)] w fun e w' => ∃ v', e = .returned v' ∧ w'.ownsRow w.heap.size 9 1 v' L.length (textV (mixFrom ByteArray.empty x0 L (L.length - 1))) ∧ Below w.heap.size w w' := by
  obtain ⟨j0, gi, gz0, gz1, gz2⟩ := info_parts Tryz.infoText
  obtain ⟨ao, cap, rfl, hcap, hT⟩ := hL
  obtain ⟨n, hn⟩ : ∃ n, n = L.length := ⟨_, rfl⟩
  have hmk := run_make_ints n (by omega)
  rw [hn] at hmk
  have hfin : ∀ A : List Nat, A = mixFrom 0 x0 (List.range L.length) (L.length - 1) → A.map (fun k => L.getD k ByteArray.empty) = mixFrom ByteArray.empty x0 L (L.length - 1) := fun A hA => by
    rw [hA, mixFrom_map (fun k => L.getD k ByteArray.empty) 0 ByteArray.empty x0 (List.range L.length) (L.length - 1) (by simp; omega), range_map_getD]
  have hlt : ∀ A : List Nat, A = mixFrom 0 x0 (List.range L.length) (L.length - 1) → A.length = L.length ∧ ∀ k, k < L.length → A.getD k 0 < L.length := fun A hA => by
    have h1 : A.length = L.length := by rw [hA, mixFrom_length, List.length_range]
    refine ⟨h1, fun k hk => ?_⟩
    have hm : A.getD k 0 ∈ A := by rw [List.getD_eq_getElem?_getD, List.getElem?_eq_getElem (by omega)]; exact List.getElem_mem _
    rw [hA] at hm
    have := mem_mixFrom 0 x0 (List.range L.length) (L.length - 1) (by simp; omega) _ hm
    rw [← hA] at this
    exact List.mem_range.1 this
  have HT := hide hT
  have HF := hide hfin
  have HL := hide hlt
  clear hT hfin hlt hn
  go_enter Tryz.func109, Tryz.ntmps109
  go_wp2_with fail
  clear hmk
  have hbA : Below w.heap.size w (w.alloc (.cells (madeCells #[.int .i64 0] L.length) 3)) := (Below.refl _ _).alloc (Nat.le_refl _) _
  have hrow0 : (w.alloc (.cells (madeCells #[.int .i64 0] L.length) 3)).rowIs w.heap.size 3 L.length (fun i => .int .i64 (((if i < 0 then i else 0) : Nat) : Int)) := (World.rowIs_made w (.int .i64 0) L.length 3).congr (fun i _ => by rw [if_neg (Nat.not_lt_zero _)]; rfl)
  go_loopw [19] (fun iv wr => ∃ k : Nat, k ≤ L.length ∧ iv = .int .i64 (k : Int) ∧ wr.rowIs w.heap.size 3 L.length (fun i => .int .i64 (((if i < k then i else 0) : Nat) : Int)) ∧ Below w.heap.size w wr) (fun iv _ => L.length - (intOf iv).toNat)
  case atStart => exact ⟨0, Nat.zero_le _, rfl, hrow0, hbA⟩
  case round =>
    clear hrow0 hbA
    obtain ⟨k, hk, rfl, hrow, hbr⟩ := hrel
    by_cases hkl : k < L.length
    · have c0 := hrow.cell (i := k) hkl
      have f0 := hrow.frozen k
      have i1 : (0 : Int) ≤ (k : Int) := by omega
      have i2 : (k : Int) < (L.length : Int) := by omega
      have hend : (wr.setCell ⟨w.heap.size, k, none⟩ (.int .i64 (k : Int))).rowIs w.heap.size 3 L.length (fun i => .int .i64 (((if i < k + 1 then i else 0) : Nat) : Int)) := (hrow.set k (.int .i64 (k : Int))).congr (fun i _ => by
        by_cases e : i = k
        · rw [if_pos e, if_pos (by omega), e]
        · rw [if_neg e]
          by_cases e2 : i < k
          · rw [if_pos e2, if_pos (by omega)]
          · rw [if_neg e2, if_neg (by omega)])
      have hbE := hbr.setCell (p := ⟨w.heap.size, k, none⟩) (Nat.le_refl _) (.int .i64 (k : Int))
      clear hrow hbr
      go_wp2_with fail
      go_roundw
      case rel => exact ⟨k + 1, by omega, by go_num, hend, hbE⟩
      case measure => simp [intOf]; omega
    · have hkk : k = L.length := by omega
      subst hkk
      have hnum : NumsIn wr w.heap.size (List.range L.length) := by
        unfold NumsIn
        rw [List.length_range]
        exact hrow.congr (fun i hi => by rw [if_pos hi, List.getD_eq_getElem?_getD, List.getElem?_range hi]; rfl)
      clear hrow
      go_wp2_with fail
      go_loopw [7, 8] (fun xv iv wr => ∃ (i x : Nat) (A : List Nat), i < L.length ∧ x ≤ 65536 ∧ A.length = L.length ∧ xv = .int .i64 (x : Int) ∧ iv = .int .i64 (i : Int) ∧ mixFrom 0 x A i = mixFrom 0 x0 (List.range L.length) (L.length - 1) ∧ NumsIn wr w.heap.size A ∧ Below w.heap.size w wr) (fun _ iv _ => (intOf iv).toNat)
      case atStart => exact ⟨L.length - 1, x0, List.range L.length, by omega, hx0, List.length_range, rfl, by congr 1; omega, rfl, hnum, hbr⟩
      case round =>
        clear hnum hbr
        obtain ⟨i, x, A, hi, hx, hA, rfl, rfl, hmix, hnum, hbr⟩ := hrel
        have Hmix := hide hmix
        clear hmix
        by_cases hi1 : 1 ≤ i
        · have hd : nxt x % (i + 1) < i + 1 := Nat.mod_lt _ (by omega)
          have hnx := nxt_le x
          have hx1 : ((75 : Int) * (x : Int) + 74) % 65537 = ((nxt x : Nat) : Int) := by unfold nxt; omega
          have hx2 : ((nxt x : Nat) : Int) % ((i : Int) + 1) = ((nxt x % (i + 1) : Nat) : Int) := by rw [Int.natCast_emod]; rfl
          have hm2 : mixFrom 0 x A i = mixFrom 0 (nxt x) (swapL A 0 i (nxt x % (i + 1))) (i - 1) := by
            obtain ⟨m, rfl⟩ : ∃ m, i = m + 1 := ⟨i - 1, by omega⟩
            rfl
          have Hm2 := hide hm2
          have Hx1 := hide hx1
          have Hx2 := hide hx2
          clear hm2 hx1 hx2
          generalize nxt x = y at *
          generalize hdd : y % (i + 1) = d at *
          have Hdd := hide hdd
          clear hdd
          have c0 := hnum.cell (i := i) (by omega)
          have c1 := hnum.cell (i := d) (by omega)
          have f0 := hnum.frozen i
          have f1 := hnum.frozen d
          have hend := hnum.swap (i := i) (j := d) (by omega) (by omega)
          obtain ⟨u, c2⟩ : ∃ u, (wr.setCell ⟨w.heap.size, i, none⟩ (.int .i64 ((A.getD d 0 : Nat) : Int))).cell? ⟨w.heap.size, d, none⟩ = some u := ⟨_, (World.rowIs.set hnum i (.int .i64 ((A.getD d 0 : Nat) : Int))).cell (i := d) (by omega)⟩
          have f2 := (World.rowIs.set hnum i (.int .i64 ((A.getD d 0 : Nat) : Int))).frozen d
          have hlen := swapL_length A 0 i d
          have hbE := (hbr.setCell (p := ⟨w.heap.size, i, none⟩) (Nat.le_refl _) (.int .i64 ((A.getD d 0 : Nat) : Int))).setCell (p := ⟨w.heap.size, d, none⟩) (Nat.le_refl _) (.int .i64 ((A.getD i 0 : Nat) : Int))
          generalize A.getD i 0 = ai at *
          generalize A.getD d 0 = ad at *
          have i1 : (0 : Int) ≤ (i : Int) := by omega
          have i2 : (i : Int) < (L.length : Int) := by omega
          have i3 : (0 : Int) ≤ (d : Int) := by omega
          have i4 : (d : Int) < (L.length : Int) := by omega
          clear hnum hbr
          go_upto_region 12 with fail
          rw [Hx1.out]
          go_upto_region 13 with fail
          rw [Hx2.out]
          go_wp2_with fail
          go_roundw
          case rel =>
            refine ⟨i - 1, y, swapL A 0 i d, by omega, hnx, by omega, rfl, ?_, ?_, hend, hbE⟩
            · show Value.int .i64 _ = Value.int .i64 _
              congr 1
              omega
            · rw [← Hmix.out, Hm2.out]
          case measure => simp [intOf]; omega
        · have hi0 : i = 0 := by omega
          have hAe : A = mixFrom 0 x0 (List.range L.length) (L.length - 1) := by have := Hmix.out; rw [hi0] at this; exact this
          have i0 : ¬ (1 : Int) ≤ (i : Int) := by omega
          clear hi0 hi1
          obtain ⟨hAl, hAlt⟩ := HL.out A hAe
          have hAm := HF.out A hAe
          have HAm := hide hAm
          clear hAe hAm Hmix HF HL
          have HAl := hide hAlt
          clear hAlt
          go_wp2_with fail
          go_loopw [11, 60] (fun ov iv wr => ∃ k : Nat, k ≤ L.length ∧ iv = .int .i64 (k : Int) ∧ wr.ownsRow (w.heap.size + 1) 9 1 ov k (textV ((A.map (fun k => L.getD k ByteArray.empty)).take k)) ∧ NumsIn wr w.heap.size A ∧ Below w.heap.size w wr) (fun _ iv _ => L.length - (intOf iv).toNat)
          case atStart => exact ⟨0, Nat.zero_le _, rfl, World.ownsRow_nil _ _ _ _, hnum, hbr⟩
          case round =>
            clear hnum hbr
            obtain ⟨k, hk, rfl, hown, hnum, hbr⟩ := hrel
            by_cases hkl : k < L.length
            · have c0 := hnum.cell (i := k) (by omega)
              have hak := HAl.out k hkl
              have hgl := hnum.lt
              have htake : (A.map (fun k => L.getD k ByteArray.empty)).take (k + 1) = (A.map (fun k => L.getD k ByteArray.empty)).take k ++ [L.getD (A.getD k 0) ByteArray.empty] := by
                rw [List.take_add_one, List.getElem?_map, List.getElem?_eq_getElem (by omega)]
                simp [List.getD_eq_getElem?_getD, List.getElem?_eq_getElem (show k < A.length by omega)]
              have Htake := hide htake
              clear htake
              generalize A.getD k 0 = ak at *
              obtain ⟨q, o, rfl, hq, ht1⟩ := HT.out ak hak
              have ht2 := (hbr.cell (p := ⟨q, o + ak, none⟩) hq).trans ht1
              clear ht1
              generalize L.getD ak ByteArray.empty = tx at *
              have i1 : (0 : Int) ≤ (k : Int) := by omega
              have i2 : (k : Int) < (L.length : Int) := by omega
              have i3 : (0 : Int) ≤ (ak : Int) := by omega
              have i4 : (ak : Int) < (L.length : Int) := by omega
              go_wp2_with (at_builtin; refine wpList_append_lies _ rfl (.tmp 64) (.tmp 69) 27 rfl (w.heap.size + 1) 9 j0 (.string ByteArray.empty) 1 16 Tryz.underlying27 gi gz0 gz1 gz2 rfl (by decide) _ _ _ rfl (hown.alloc _) ⟨wr.heap.size, 0, none⟩ 1 1 [.string tx] rfl rfl (one_news _ _ _) (one_oneCell rfl) (by decide) (by unfold maxLen; omega) (by omega) (by simp; omega) (wr.heap.size + 1) (by simp) ?_)
              intro g5 cap5 w5 hown5 hgr5 hat5 hlt5
              have hgr := grownBy_of_alloc hgr5
              have hnum5 : NumsIn w5 w.heap.size A := World.rowIs.of_block hnum (hgr.block _ hgl (fun e => by have := (hown.lt _ e.symm).1; omega))
              have hb5 : Below w.heap.size w w5 := hbr.grown hgr hbr.size (fun k e => by have := (hown.lt k e).1; omega)
              clear hown hnum hbr hgr5 hgr hat5 c0 ht2
              go_wp2_with fail
              go_roundw
              case rel => exact ⟨k + 1, by omega, by go_num, by rw [Htake.out, textV_append]; exact hown5, hnum5, hb5⟩
              case measure => simp [intOf]; omega
            · have hkk : k = L.length := by omega
              subst hkk
              go_wp2_with fail
              go_ret
              refine ⟨_, rfl, ?_, hbr⟩
              rw [List.take_of_length_le (by simp; omega), HAm.out] at hown
              exact owns_low hown (Nat.le_succ _)

end Go.Proofs.YtnjaofkieajnlaaGreat

/- The document's own Mail. -/
namespace Go.Proofs.YtnjaofkieajnlaaGreat
open Go.RowKit

theorem chg_under {S : Nat → Prop} {w wr w2 : World} (h : Below w.heap.size w wr) (hc : Chg S wr w2) (hs : ∀ k, S k → w.heap.size ≤ k) : Below w.heap.size w w2 :=
  ⟨hc.os.trans h.os, hc.tape.trans h.tape, hc.output.trans h.output, Nat.le_trans h.size hc.size, fun k hk => (hc.block k (Nat.lt_of_lt_of_le hk h.size) (fun s => by have := hs k s; omega)).trans (h.block k hk)⟩

/-- The large object of a specification may be. -/
structure MailOk (K M O S z : Nat) (t : ByteArray) (x : Nat) : Prop where
  spec : SpecOk K M O S z
  three : 3 ≤ K * z
  parts : partsN t (K * z - 2) ≤ 20
  order : x ≤ 65535

/-- The sheets, in the order that is drawn. -/
def mailL (K M O S z : Nat) (t : ByteArray) (x : Nat) : List ByteArray :=
  mixFrom ByteArray.empty x (sheetsTo K M O S z (partsN t (K * z - 2)) t (partsN t (K * z - 2))) ((sheetsTo K M O S z (partsN t (K * z - 2)) t (partsN t (K * z - 2))).length - 1)

set_option maxRecDepth 100000 in
set_option maxHeartbeats 8000000 in
theorem rmail_ok (K M O S z : Nat) (t : ByteArray) (x : Nat) (w : World) (h : MailOk K M O S z t x) (ht : t.size ≤ 1125899906842624) :
    Calls Tryz.prog 80 #[specV K M O S, .int .i64 (z : Int), .string t, .int .i64 (x : Int)] w fun e w' => ∃ v, e = .returned (.tuple #[v, .int .i64 0]) ∧ w'.ownsRow w.heap.size 9 1 v (mailL K M O S z t x).length (textV (mailL K M O S z t x)) ∧ Below w.heap.size w w' := by
  obtain ⟨⟨hK, hM, hO, hS, hz⟩, h3, hps, hx⟩ := h
  have hN2 : K * z ≤ 320 := Nat.le_trans (Nat.mul_le_mul hK.2 hz.2) (by decide)
  have hmul : (K : Int) * (z : Int) - 2 = ((K * z - 2 : Nat) : Int) := by
    have : (K : Int) * (z : Int) = ((K * z : Nat) : Int) := by simp
    rw [this]; omega
  have hm1 : 0 ≤ (K : Int) * (z : Int) := by omega
  have hm2 : (K : Int) * (z : Int) ≤ 320 := by omega
  have hma := fun W => may_below K M O S W
  have hmay : mayB K M O S = true := by simp [mayB]; omega
  rw [hmay] at hma
  obtain ⟨n, hn⟩ : ∃ n, n = K * z - 2 := ⟨_, rfl⟩
  have hnb : 1 ≤ n ∧ n ≤ 318 := by omega
  have hpa := fun W => rparts_any t n W (by omega) ht
  have hse := fun p (hp : p < partsN t n) W => rsend_ok K M O S z (partT t n p) W hK hM hO hS hz (by have := (partT_in t n p hnb.1 hp).2; omega)
  have hsz : ∀ p, p < partsN t n → (partT t n p).size + 2 ≤ K * z := fun p hp => by have := (partT_in t n p hnb.1 hp).2; omega
  have hpt := fun p (hp : p < partsN t n) (hp2 : p ≤ 20) W => rpart_any t n p W (by omega) hp2 (partT_in t n p hnb.1 hp).1 ht
  have hc1 := partsN_pos t n hnb.1
  have hml : mailL K M O S z t x = mixFrom ByteArray.empty x (sheetsTo K M O S z (partsN t n) t (partsN t n)) ((sheetsTo K M O S z (partsN t n) t (partsN t n)).length - 1) := by unfold mailL; rw [← hn]
  have hst : ∀ p, sheetsTo K M O S z (partsN t n) t (p + 1) = sheetsTo K M O S z (partsN t n) t p ++ sheetTo p (partsN t n) (packTo K M O S z (objWord K M O S z (partT t n p)) (K + M)) (K + M) := fun p => by
    show sheetsTo K M O S z (partsN t n) t p ++ sheetTo p (partsN t n) (partL K M O S z t p) (K + M) = _
    unfold partL
    rw [← hn]
  rw [← hn] at hmul hps
  have hlen := fun p => sheetsTo_length K M O S z (partsN t n) t p
  rw [hml]
  have Hst := hide hst
  have Hmul := hide hmul
  have Hlen := hide hlen
  clear hml hst hlen hmay hmul hn
  generalize partsN t n = c at *
  obtain ⟨j0, gi, gz0, gz1, gz2⟩ := info_parts Tryz.infoText
  have hsp : (w.alloc (specB K M O S)).heap[w.heap.size]? = some (specB K M O S) := heap_alloc_new w _
  have hbA : Below w.heap.size w (w.alloc (specB K M O S)) := (Below.refl _ _).alloc (Nat.le_refl _) _
  have z1 : ¬ (z : Int) < 1 := by omega
  have z2 : ¬ (16 : Int) < (z : Int) := by omega
  have o1 : ¬ (x : Int) < 0 := by omega
  have o2 : ¬ (65535 : Int) < (x : Int) := by omega
  have n1 : ¬ (n : Int) < 1 := by omega
  have p1 : ¬ (20 : Int) < (c : Int) := by omega
  go_enter Tryz.func80, Tryz.ntmps80
  go_wp2_with fail
  refine (hma _).mono ?_
  rintro e w1 ⟨rfl, hb1⟩
  have hs1 := block_on hsp hb1
  have hbw1 := hbA.trans (hb1.mono hbA.size)
  have hsz1 : w.heap.size < w1.heap.size := (Array.getElem?_eq_some_iff.1 hs1).1
  clear hsp hbA hb1 hma
  obtain ⟨c0, c1, c2, c3⟩ := spec_cells hs1
  go_upto_region 7 with fail
  rw [Hmul.out]
  clear c0 c1 c2 c3
  go_wp2_with fail
  refine (hpa _).mono ?_
  rintro e W1 ⟨rfl, rfl⟩
  go_wp2_with fail
  refine (hpa _).mono ?_
  rintro e W2 ⟨rfl, rfl⟩
  clear hpa
  go_wp2_with fail
  go_loopw [12, 54] (fun av pv wr => ∃ p : Nat, p ≤ c ∧ pv = .int .i64 (p : Int) ∧ wr.ownsRow (w.heap.size + 1) 9 1 av (sheetsTo K M O S z c t p).length (textV (sheetsTo K M O S z c t p)) ∧ wr.heap[w.heap.size]? = some (specB K M O S) ∧ Below w.heap.size w wr) (fun _ pv _ => c - (intOf pv).toNat)
  case atStart => exact ⟨0, Nat.zero_le _, rfl, World.ownsRow_nil _ _ _ _, hs1, hbw1⟩
  case round =>
    clear hs1 hbw1
    obtain ⟨p, hpc, rfl, hown, hsr, hbr⟩ := hrel
    have hszr : w.heap.size < wr.heap.size := (Array.getElem?_eq_some_iff.1 hsr).1
    have hlp := Hlen.out p
    have hlb : (sheetsTo K M O S z c t p).length ≤ 800 := by rw [hlp]; exact Nat.le_trans (Nat.mul_le_mul (show p ≤ 20 by omega) (show K + M ≤ 40 by omega)) (by decide)
    clear hlp
    by_cases hlt : p < c
    · have hs := hse p hlt
      have hp := hpt p hlt (by omega)
      have hstp := Hst.out p
      have hLl := packTo_length K M O S z (objWord K M O S z (partT t n p)) (K + M)
      have hLs := fun i (hi : i < K + M) => packTo_sizes (K := K) (M := M) (O := O) (S := S) (z := z) (o := partT t n p) (hsz p hlt) hi
      generalize packTo K M O S z (objWord K M O S z (partT t n p)) (K + M) = L at *
      generalize partT t n p = pt at *
      have Hstp := hide hstp
      clear hstp
      obtain ⟨c0, c1, c2, c3⟩ := spec_cells hsr
      obtain ⟨all0, hall0⟩ : ∃ l, l = sheetsTo K M O S z c t p := ⟨_, rfl⟩
      rw [← hall0] at hown hlb Hstp
      clear hall0
      go_wp2_with fail
      go_region_held3 (fun w' => w'.cell? ⟨w.heap.size, 0, none⟩ = some (.int .i64 (K : Int)) ∧ w'.cell? ⟨w.heap.size, 1, none⟩ = some (.int .i64 (M : Int)) ∧ w'.cell? ⟨w.heap.size, 2, none⟩ = some (.int .i64 (O : Int)) ∧ w'.cell? ⟨w.heap.size, 3, none⟩ = some (.int .i64 (S : Int)))
        (first | (exact ⟨d0, d1, d2, d3⟩) | (exact ⟨c0, c1, c2, c3⟩) | go_keep)
        (first
          | (go_at_call 67; refine (hp _).mono ?_; rintro e w2 ⟨rfl, h2⟩; obtain rfl := h2.symm)
          | (go_at_call 78; refine (hs _).mono ?_; rintro e w3 ⟨v3, rfl, hown3, hb3⟩; obtain ⟨d0, d1, d2, d3⟩ := spec_cells (block_on (w := wr.drew) hsr hb3)))
      obtain ⟨g, gcap, rfl, hg, hgl⟩ := hown3.form (by omega)
      have hTc : ∀ k, k < K + M → w3.cell? ⟨g, k, none⟩ = some (.string (L.getD k ByteArray.empty)) := fun k hk => by
        have := hown3.cells (g := g) rfl k (.string (L.getD k ByteArray.empty)) (by unfold textV; rw [List.getElem?_map, List.getElem?_eq_getElem (by omega), List.getD_eq_getElem?_getD, List.getElem?_eq_getElem (by omega)]; rfl)
        rwa [Addr.add_mid, Nat.zero_add] at this
      have hown4 : w3.ownsRow (w.heap.size + 1) 9 1 u12 all0.length (textV all0) := owns_below (w := wr.drew) hown.drew hb3
      have hs3 : w3.heap[w.heap.size]? = some (specB K M O S) := block_on (w := wr.drew) hsr hb3
      have hbr3 : Below w.heap.size w w3 := hbr.drew.trans (Below.mono hb3 hbr.size)
      have hub : ∀ k, u12.ownBlock = some k → w.heap.size + 1 ≤ k ∧ k < g := fun k hk => by
        have h1 := hown.lt k hk
        have h2 : wr.heap.size ≤ g := hg
        omega
      have hsz3 : wr.heap.size ≤ w3.heap.size := hb3.size
      obtain ⟨ob, hob⟩ : ∃ ob, ob = u12.ownBlock := ⟨_, rfl⟩
      rw [← hob] at hub
      have HTc := hide hTc
      have HLs := hide hLs
      clear hTc hLs d0 d1 d2 d3 c0 c1 c2 c3 hown3 hb3 hown hsr hbr h2 hp hs
      rename_i hheld
      clear hheld
      go_wp2_with fail
      go_loopw [12, 69] (fun av iv wi => ∃ i : Nat, i ≤ K + M ∧ iv = .int .i64 (i : Int) ∧ wi.ownsRow (w.heap.size + 1) 9 1 av (all0.length + i) (textV (all0 ++ sheetTo p c L i)) ∧ (∀ k, av.ownBlock = some k → ob = some k ∨ w3.heap.size ≤ k) ∧ Chg (fun k => ob = some k) w3 wi) (fun _ iv _ => K + M - (intOf iv).toNat)
      case atStart => exact ⟨0, Nat.zero_le _, rfl, by show w3.ownsRow _ _ _ _ _ (textV (all0 ++ [])); rw [List.append_nil]; exact hown4, fun k hk => Or.inl (by rw [hob]; exact hk), Chg.refl _ _⟩
      case round =>
        clear hown4 hob
        obtain ⟨i, hi, rfl, hown, hav, hcg⟩ := hrel
        have hwis := hcg.size
        by_cases hil : i < K + M
        · have ht1 := (hcg.cell (a := ⟨g, i, none⟩) hgl (fun e => by have := hub g e; omega)).trans (HTc.out i hil)
          have hls := HLs.out i hil
          have hsn : all0 ++ sheetTo p c L (i + 1) = (all0 ++ sheetTo p c L i) ++ [sheetB p c (L.getD i ByteArray.empty)] := by rw [List.append_assoc]; rfl
          have Hsn := hide hsn
          clear hsn
          generalize L.getD i ByteArray.empty = pk at *
          have hpk : pk.size ≤ 25 := by omega
          clear hls
          have hcv := conv_block ⟨#[UInt8.ofNat p, UInt8.ofNat c]⟩ wr.heap.size #[.int .u8 (p : Int), .int .u8 (c : Int)] (wr.alloc (.cells #[.int .u8 (p : Int), .int .u8 (c : Int)] 5)) (heap_alloc_new wr _) (by
            show _ = [Value.int .u8 ((UInt8.ofNat p).toNat : Int), Value.int .u8 ((UInt8.ofNat c).toNat : Int)].toArray
            rw [ofNat_u8 p (by omega), ofNat_u8 c (by omega)])
          have hcv' : (convert 106 9 (.slice (some ⟨wr.heap.size, 0, none⟩) 2 2)).run Tryz.prog (wr.alloc (.cells #[.int .u8 (p : Int), .int .u8 (c : Int)] 5)) = .ok (.string ⟨#[UInt8.ofNat p, UInt8.ofNat c]⟩) _ := hcv
          obtain ⟨B, hB⟩ : ∃ B, B = ByteArray.mk #[UInt8.ofNat p, UInt8.ofNat c] := ⟨_, rfl⟩
          have hsh : sheetB p c pk = ⟨#[83]⟩ ++ B ++ pk := by rw [hB]; rfl
          have hBs : B.size = 2 := by rw [hB]; rfl
          rw [← hB] at hcv'
          rw [hsh] at Hsn
          clear hcv hB hsh
          have i1 : (0 : Int) ≤ (i : Int) := by omega
          have i2 : (i : Int) < (K : Int) + (M : Int) := by omega
          have pb1 : (p : Int) < 256 := by omega
          have pb2 : (c : Int) < 256 := by omega
          obtain ⟨T, hT⟩ : ∃ T, T = ByteArray.mk #[83] ++ B ++ pk := ⟨_, rfl⟩
          rw [← hT] at Hsn
          have HT := hide hT
          clear hT
          go_wp2_with (first | (rw [← HT.out]) | (at_builtin; refine wpList_append_lies _ rfl (.tmp 73) (.tmp 83) 27 rfl (w.heap.size + 1) 9 j0 (.string ByteArray.empty) 1 16 Tryz.underlying27 gi gz0 gz1 gz2 rfl (by decide) _ _ _ rfl ((hown.alloc _).alloc _) ⟨wr.heap.size + 1, 0, none⟩ 1 1 [.string T] rfl rfl (World.news_of_block (cs := #[_]) (heap_alloc2p wr _ _)) (one_oneCell rfl) (by decide) (by unfold maxLen; omega) (by omega) (by simp; omega) (wr.heap.size + 1 + 1) (by simp) ?_))
          intro g5 cap5 w5 hown5 hgr5 hat5 hlt5
          have hgr := grownBy_of_alloc (grownBy_of_alloc hgr5)
          have hcg5 : Chg (fun k => ob = some k) w3 w5 := hcg.grown hgr (fun k e => by
            rcases hav k e with h | h
            · exact Or.inr h
            · exact Or.inl h)
          have hav5 : ∀ k, (Value.slice (some ⟨g5, 0, none⟩) (all0.length + i + 1) cap5).ownBlock = some k → ob = some k ∨ w3.heap.size ≤ k := fun k hk => by
            have hk' : g5 = k := by simpa [Value.ownBlock] using hk
            rcases hat5 with h | h
            · exact hav k (by rw [h, hk'])
            · right; omega
          clear hown hcg hgr5 hgr hat5 ht1 hcv' hav
          go_wp2_with fail
          go_roundw
          case rel => exact ⟨i + 1, by omega, by go_num, by rw [Hsn.out, textV_append]; exact hown5, hav5, hcg5⟩
          case measure => simp [intOf]; omega
        · have hii : i = K + M := by omega
          have hbwi : Below w.heap.size w wr := chg_under hbr3 hcg (fun k e => by have := hub k e; omega)
          have hsi : wr.heap[w.heap.size]? = some (specB K M O S) := (hcg.block _ (by omega) (fun e => by have := hub _ e; omega)).trans hs3
          rw [hii, ← Hstp.out] at hown
          have hlen2 : all0.length + (K + M) = (sheetsTo K M O S z c t (p + 1)).length := by rw [Hstp.out, List.length_append, sheetTo_length]
          rw [hlen2] at hown
          clear hlen2
          have i5 : ¬ (i : Int) < (K : Int) + (M : Int) := by omega
          clear hcg hii hav hi hil
          go_wp2_with fail
          go_roundw
          case rel => exact ⟨p + 1, by omega, by go_num, hown, hsi, hbwi⟩
          case measure => simp [intOf]; omega
    · have hpc2 : p = c := by omega
      have hl1 : 1 ≤ (sheetsTo K M O S z c t p).length := by rw [Hlen.out p]; exact Nat.mul_pos (by omega) (by omega)
      have hmx := fun W h => rmixed_any u12 (sheetsTo K M O S z c t p) x W h (by omega) (by omega)
      have htx := owns_texts hown rfl
      have i5 : ¬ (p : Int) < (c : Int) := by omega
      rw [hpc2] at hmx htx
      have hll := mixFrom_length ByteArray.empty x (sheetsTo K M O S z c t c) ((sheetsTo K M O S z c t c).length - 1)
      obtain ⟨R, hR⟩ : ∃ R, R = mixFrom ByteArray.empty x (sheetsTo K M O S z c t c) ((sheetsTo K M O S z c t c).length - 1) := ⟨_, rfl⟩
      rw [← hR] at hmx hll
      have HR := hide hR
      have HLL := hide hll
      clear hll hpc2 hown hl1 hlb hR
      go_wp2_with fail
      refine (hmx _ htx).mono ?_
      rintro e w2 ⟨v2, rfl, hown2, hb2⟩
      have hend := hbr.trans (hb2.mono hbr.size)
      have hown3 := owns_low hown2 hbr.size
      rw [← HLL.out] at hown3
      clear hmx htx hown2 hb2
      go_wp2_with fail
      go_ret2
      exact ⟨_, rfl, by rw [← HR.out]; exact hown3, hend⟩

end Go.Proofs.YtnjaofkieajnlaaGreat
