/- Texts of the proof, part 21. -/
import Derived.Below
import Derived.ChangeOld
import Derived.ChangeSlices
import Derived.Deep.MidRow
import Derived.Deep.RegionHeld3
import Derived.Lib.SmallJoins
import Derived.OpenShut
import Derived.ProofKit
import Derived.Test.YtnjaofkieajnlabPostedG11
import Derived.Test.YtnjaofkieajnlabPostedG19
import Derived.Test.YtnjaofkieajnlabPostedG3
import Derived.Test.YtnjaofkieajnlabPostedG6
import Derived.Test.YtnjaofkieajnlabPostedG7
import Derived.Test.YtnjaofkieajnlabRows

/- The program's Mail. -/
namespace Go.Proofs.Ytnjaofkieajnlab
open Go.RowKit

/-- What is asked of a large object, by the size. -/
structure MailMay (K M O S z : Nat) (t : ByteArray) (x : Nat) : Prop where
  spec : SpecOk K M O S z
  three : 3 ≤ K * z
  size : t.size ≤ 20 * (K * z - 2)
  order : x ≤ 65535

/-- The sheets, in the order that is drawn. -/
def mailT (K M O S z : Nat) (t : ByteArray) (x : Nat) : List ByteArray :=
  mixFrom ByteArray.empty x (sheetsTo K M O S z (partsN t (K * z - 2)) t (partsN t (K * z - 2))) ((sheetsTo K M O S z (partsN t (K * z - 2)) t (partsN t (K * z - 2))).length - 1)

theorem mailT_length (K M O S z : Nat) (t : ByteArray) (x : Nat) : (mailT K M O S z t x).length = partsN t (K * z - 2) * (K + M) := by
  unfold mailT
  rw [mixFrom_length, sheetsTo_length]

set_option maxRecDepth 100000 in
set_option maxHeartbeats 8000000 in
theorem lmail_ok (K M O S z : Nat) (t : ByteArray) (x : Nat) (w : World) (h : MailMay K M O S z t x) :
    Calls Try.prog 37 #[specV K M O S, .int .i64 (z : Int), .string t, .int .i64 (x : Int)] w fun e w' => ∃ v, e = .returned (.tuple #[v, .int .i64 0]) ∧ w'.ownsRow w.heap.size 9 1 v (mailT K M O S z t x).length (textV (mailT K M O S z t x)) ∧ Below w.heap.size w w' := by
  obtain ⟨hsk, h3, hts, hx⟩ := h
  obtain ⟨hK, hM, hO, hS, hz⟩ := id hsk
  have hN2 : K * z ≤ 320 := Nat.le_trans (Nat.mul_le_mul hK.2 hz.2) (by decide)
  have hmul : (K : Int) * (z : Int) - 2 = ((K * z - 2 : Nat) : Int) := by
    have : (K : Int) * (z : Int) = ((K * z : Nat) : Int) := by simp
    rw [this]; omega
  have hma := fun W => maybe_below K M O S W
  have hmay : mayB K M O S = true := by simp [mayB]; omega
  rw [hmay] at hma
  have hro := fun W => room_any K z W hK.2 hz.2
  rw [hmul] at hro
  have hcu := fun W => lcut_any t (K * z - 2) W (by omega) (by omega)
  have hp20 : partsN t (K * z - 2) ≤ 20 := (partsN_le (by omega) (by omega)).2 hts
  have hp1 := partsN_pos t (K * z - 2) (by omega)
  have hsh := fun v W hL => lsheets_any K M O S z t (partsN t (K * z - 2)) v W hsk h3 rfl hp20 hL
  have hlen := sheetsTo_length K M O S z (partsN t (K * z - 2)) t (partsN t (K * z - 2))
  have hcl := cutL_length t (K * z - 2) (partsN t (K * z - 2))
  have hlb : partsN t (K * z - 2) * (K + M) ≤ 800 := Nat.le_trans (Nat.mul_le_mul hp20 (show K + M ≤ 40 by omega)) (by decide)
  have hl1 : 1 ≤ partsN t (K * z - 2) * (K + M) := Nat.mul_pos (by omega) (by omega)
  have hml := mailT_length K M O S z t x
  have hmx := fun v W hL => lshuf_any v (sheetsTo K M O S z (partsN t (K * z - 2)) t (partsN t (K * z - 2))) x W hL (by omega) (by omega)
  have hmt : mixFrom ByteArray.empty x (sheetsTo K M O S z (partsN t (K * z - 2)) t (partsN t (K * z - 2))) ((sheetsTo K M O S z (partsN t (K * z - 2)) t (partsN t (K * z - 2))).length - 1) = mailT K M O S z t x := rfl
  rw [hmt, hlen] at hmx
  rw [hml]
  have n1 : ¬ ((K * z - 2 : Nat) : Int) < 1 := by omega
  have n2 : ¬ 20 * ((K * z - 2 : Nat) : Int) < (t.size : Int) := by omega
  have n3 : ((K * z - 2 : Nat) : Int) ≤ 318 := by omega
  have n4 : 0 ≤ ((K * z - 2 : Nat) : Int) := by omega
  clear hmul hmt hml hmay hts h3 hN2 hp1
  generalize mailT K M O S z t x = R at *
  generalize hc : partsN t (K * z - 2) = c at *
  clear hc
  generalize hn : K * z - 2 = n at *
  clear hn
  generalize hD : sheetsTo K M O S z c t c = D at *
  generalize hC : cutL t n c = C at *
  clear hD hC
  obtain ⟨N, hN⟩ : ∃ N, N = c * (K + M) := ⟨_, rfl⟩
  rw [← hN] at hlen hsh hmx hlb hl1 ⊢
  clear hN
  have hsp : (w.alloc (specB K M O S)).heap[w.heap.size]? = some (specB K M O S) := heap_alloc_new w _
  have hbA : Below w.heap.size w (w.alloc (specB K M O S)) := (Below.refl _ _).alloc (Nat.le_refl _) _
  have z1 : ¬ (z : Int) < 1 := by omega
  have z2 : ¬ (16 : Int) < (z : Int) := by omega
  have o1 : ¬ (x : Int) < 0 := by omega
  have o2 : ¬ (65535 : Int) < (x : Int) := by omega
  have HL := hide hlen
  have HC := hide hcl
  clear hlen hcl
  go_enter Try.func37, Try.ntmps37
  go_wp2_with fail
  refine (hma _).mono ?_
  rintro e w1 ⟨rfl, hb1⟩
  have hs1 := block_on hsp hb1
  have hbw1 := hbA.trans (hb1.mono hbA.size)
  clear hsp hbA hb1 hma
  obtain ⟨c0, c1, c2, c3⟩ := spec_cells hs1
  go_wp2_with fail
  refine (hro _).mono ?_
  rintro e w1r ⟨rfl, hr⟩
  obtain rfl := hr.symm
  clear hro
  go_wp2_with fail
  refine (hcu _).mono ?_
  rintro e w2 ⟨v2, rfl, hown2, hb2⟩
  have hs2 := block_on hs1 hb2
  have hbw2 := hbw1.trans (hb2.mono hbw1.size)
  clear hs1 hb2 hcu c0 c1 c2 c3 hbw1
  have htx2 := owns_texts hown2 HC.out.symm
  clear hown2
  obtain ⟨c0, c1, c2, c3⟩ := spec_cells hs2
  go_wp2_with fail
  refine (hsh _ _ htx2).mono ?_
  rintro e w3 ⟨v3, rfl, hown3, hb3⟩
  have hbw3 := hbw2.trans (hb3.mono hbw2.size)
  have htx3 := owns_texts hown3 HL.out.symm
  clear hs2 hb3 hsh hown3 hbw2 htx2 c0 c1 c2 c3
  go_wp2_with fail
  refine (hmx _ _ htx3).mono ?_
  rintro e w4 ⟨v4, rfl, hown4, hb4⟩
  have hend := hbw3.trans (hb4.mono hbw3.size)
  have hown5 := owns_low hown4 hbw3.size
  clear hmx htx3 hown4 hb4 hbw3
  go_wp2_with fail
  go_ret2
  exact ⟨_, rfl, hown5, hend⟩

set_option maxRecDepth 100000 in
set_option maxHeartbeats 4000000 in
theorem lmail_bad (K M O S z x : Int) (t : ByteArray) (w : World) (hmay : mayB K M O S = false) :
    Calls Try.prog 37 #[specV K M O S, .int .i64 z, .string t, .int .i64 x] w fun e w' => e = .returned (.tuple #[.slice none 0 0, .int .i64 1]) ∧ Below w.heap.size w w' := by
  have hma := fun W => maybe_below K M O S W
  rw [hmay] at hma
  go_enter Try.func37, Try.ntmps37
  go_wp2_with fail
  refine (hma _).mono ?_
  rintro e w1 ⟨rfl, hb1⟩
  have hbw1 : Below w.heap.size w w1 := ((Below.refl _ _).alloc (Nat.le_refl _) _).trans (hb1.mono (by simp))
  go_wp2_with fail
  go_ret2
  exact ⟨rfl, hbw1⟩

set_option maxRecDepth 100000 in
set_option maxHeartbeats 4000000 in
theorem lmail_arg (K M O S z x : Int) (t : ByteArray) (w : World) (hmay : mayB K M O S = true) (h : z < 1 ∨ 16 < z ∨ x < 0 ∨ 65535 < x) :
    Calls Try.prog 37 #[specV K M O S, .int .i64 z, .string t, .int .i64 x] w fun e w' => e = .returned (.tuple #[.slice none 0 0, .int .i64 2]) ∧ Below w.heap.size w w' := by
  have hma := fun W => maybe_below K M O S W
  rw [hmay] at hma
  have hor : z < 1 ∨ (¬ z < 1 ∧ 16 < z) ∨ (¬ z < 1 ∧ ¬ 16 < z ∧ x < 0) ∨ (¬ z < 1 ∧ ¬ 16 < z ∧ ¬ x < 0 ∧ 65535 < x) := by omega
  clear h hmay
  go_enter Try.func37, Try.ntmps37
  go_wp2_with fail
  refine (hma _).mono ?_
  rintro e w1 ⟨rfl, hb1⟩
  have hbw1 : Below w.heap.size w w1 := ((Below.refl _ _).alloc (Nat.le_refl _) _).trans (hb1.mono (by simp))
  clear hma hb1
  rcases hor with h1 | ⟨h1, h2⟩ | ⟨h1, h2, h3⟩ | ⟨h1, h2, h3, h4⟩
  all_goals
    go_wp2_with fail
    go_ret2
    exact ⟨rfl, hbw1⟩

set_option maxRecDepth 100000 in
set_option maxHeartbeats 4000000 in
theorem lmail_shape (K M O S z : Nat) (t : ByteArray) (x : Nat) (w : World) (hmay : mayB K M O S = true) (hz : 1 ≤ z ∧ z ≤ 16) (hx : x ≤ 65535) (h : K * z < 3 ∨ (3 ≤ K * z ∧ 20 * (K * z - 2) < t.size)) :
    Calls Try.prog 37 #[specV K M O S, .int .i64 (z : Int), .string t, .int .i64 (x : Int)] w fun e w' => e = .returned (.tuple #[.slice none 0 0, .int .i64 3]) ∧ Below w.heap.size w w' := by
  have hKK := mayB_true hmay
  have hK : 1 ≤ K ∧ K ≤ 20 := by omega
  have hma := fun W => maybe_below K M O S W
  rw [hmay] at hma
  have hro := fun W => room_any K z W hK.2 hz.2
  have hN2 : K * z ≤ 320 := Nat.le_trans (Nat.mul_le_mul hK.2 hz.2) (by decide)
  have hN1 : 1 ≤ K * z := Nat.mul_pos (by omega) (by omega)
  have hmul : (K : Int) * (z : Int) = ((K * z : Nat) : Int) := by simp
  rw [hmul] at hro
  have hsp : (w.alloc (specB K M O S)).heap[w.heap.size]? = some (specB K M O S) := heap_alloc_new w _
  have hbA : Below w.heap.size w (w.alloc (specB K M O S)) := (Below.refl _ _).alloc (Nat.le_refl _) _
  have z1 : ¬ (z : Int) < 1 := by omega
  have z2 : ¬ (16 : Int) < (z : Int) := by omega
  have o1 : ¬ (x : Int) < 0 := by omega
  have o2 : ¬ (65535 : Int) < (x : Int) := by omega
  clear hmul hmay hKK
  rcases h with h | ⟨h3, h⟩
  · obtain ⟨r, hr⟩ : ∃ r : Int, r = ((K * z : Nat) : Int) - 2 := ⟨_, rfl⟩
    have n1 : r < 1 := by omega
    rw [← hr] at hro
    clear hr h hN2 hN1
    go_enter Try.func37, Try.ntmps37
    go_wp2_with fail
    refine (hma _).mono ?_
    rintro e w1 ⟨rfl, hb1⟩
    have hs1 := block_on hsp hb1
    have hbw1 := hbA.trans (hb1.mono hbA.size)
    clear hsp hbA hb1 hma
    obtain ⟨c0, c1, c2, c3⟩ := spec_cells hs1
    go_wp2_with fail
    refine (hro _).mono ?_
    rintro e w1r ⟨rfl, hr⟩
    obtain rfl := hr.symm
    go_wp2_with fail
    go_ret2
    exact ⟨rfl, hbw1⟩
  · obtain ⟨r, hr⟩ : ∃ r : Int, r = ((K * z : Nat) : Int) - 2 := ⟨_, rfl⟩
    have n1 : ¬ r < 1 := by omega
    have n2 : 20 * r < (t.size : Int) := by omega
    have n3 : r ≤ 318 := by omega
    have n4 : 0 ≤ r := by omega
    rw [← hr] at hro
    clear hr h hN2 hN1 h3
    go_enter Try.func37, Try.ntmps37
    go_wp2_with fail
    refine (hma _).mono ?_
    rintro e w1 ⟨rfl, hb1⟩
    have hs1 := block_on hsp hb1
    have hbw1 := hbA.trans (hb1.mono hbA.size)
    clear hsp hbA hb1 hma
    obtain ⟨c0, c1, c2, c3⟩ := spec_cells hs1
    go_wp2_with fail
    refine (hro _).mono ?_
    rintro e w1r ⟨rfl, hr⟩
    obtain rfl := hr.symm
    go_wp2_with fail
    go_ret2
    exact ⟨rfl, hbw1⟩

set_option maxRecDepth 100000 in
set_option maxHeartbeats 4000000 in
theorem mail_ok (K M O S z : Nat) (t : ByteArray) (x : Nat) (w : World) (h : MailMay K M O S z t x) :
    Calls Try.prog 23 #[specV K M O S, .int .i64 (z : Int), .string t, .int .i64 (x : Int)] w fun e w' => ∃ v, e = .returned (.tuple #[v, .int .i64 0]) ∧ w'.ownsRow w.heap.size 9 1 v (mailT K M O S z t x).length (textV (mailT K M O S z t x)) ∧ Below w.heap.size w w' := by
  have hse := fun W => lmail_ok K M O S z t x W h
  generalize mailT K M O S z t x = L at *
  have hbA : Below w.heap.size w (w.alloc (specB K M O S)) := (Below.refl _ _).alloc (Nat.le_refl _) _
  go_enter Try.func23, Try.ntmps23
  go_wp2_with fail
  refine (hse _).mono ?_
  rintro e w1 ⟨v, rfl, hown, hb1⟩
  have hown1 := owns_low hown hbA.size
  have hbw1 := hbA.trans (hb1.mono hbA.size)
  clear hown hse hbA hb1
  go_wp2_with fail
  go_ret2
  exact ⟨_, rfl, hown1, hbw1⟩

set_option maxRecDepth 100000 in
set_option maxHeartbeats 4000000 in
theorem mail_err (K M O S z x n : Int) (t : ByteArray) (w : World) (hse : ∀ W, Calls Try.prog 37 #[specV K M O S, .int .i64 z, .string t, .int .i64 x] W fun e w' => e = .returned (.tuple #[.slice none 0 0, .int .i64 n]) ∧ Below W.heap.size W w') :
    Calls Try.prog 23 #[specV K M O S, .int .i64 z, .string t, .int .i64 x] w fun e w' => e = .returned (.tuple #[.slice none 0 0, .int .i64 n]) ∧ Below w.heap.size w w' := by
  have hbA : Below w.heap.size w (w.alloc (.cells #[.int .i64 K, .int .i64 M, .int .i64 O, .int .i64 S] 24)) := (Below.refl _ _).alloc (Nat.le_refl _) _
  go_enter Try.func23, Try.ntmps23
  go_wp2_with fail
  refine (hse _).mono ?_
  rintro e w1 ⟨rfl, hb1⟩
  have hbw1 := hbA.trans (hb1.mono hbA.size)
  clear hse hbA hb1
  go_wp2_with fail
  go_ret2
  exact ⟨rfl, hbw1⟩

end Go.Proofs.Ytnjaofkieajnlab

/- A box with pieces of a word put in. -/
namespace Go.Proofs.Ytnjaofkieajnlab
open Go.RowKit

/-- A slice of ints that came in, as it is read. -/
def IntsAt (w : World) (v : Value) (l : List Int) : Prop :=
  ∃ ao cap, v = .slice ao l.length cap ∧ l.length ≤ cap ∧ ∀ k, k < l.length → ∃ q o, ao = some ⟨q, o, none⟩ ∧ q < w.heap.size ∧ w.cell? ⟨q, o + k, none⟩ = some (.int .i64 (l.getD k 0)) ∧ -9223372036854775808 ≤ l.getD k 0 ∧ l.getD k 0 ≤ 9223372036854775807

theorem IntsAt.on {w w1 : World} {v : Value} {l : List Int} (h : IntsAt w v l) {m : Nat} (hm : w.heap.size ≤ m) (hb : Below m w w1) : IntsAt w1 v l := by
  obtain ⟨ao, cap, hv, hc, h⟩ := h
  refine ⟨ao, cap, hv, hc, fun k hk => ?_⟩
  obtain ⟨q, o, ha, hq, h1, h2⟩ := h k hk
  exact ⟨q, o, ha, Nat.lt_of_lt_of_le hq hb.size, by rw [hb.cell (p := ⟨q, o + k, none⟩) (Nat.lt_of_lt_of_le hq hm)]; exact h1, h2⟩

theorem pick_place (c : Int) (n : Nat) (hn : 0 < n) : rawOf c % (n : Int) = (placeOf n c : Int) := by
  unfold placeOf rawOf
  have h1 := Int.emod_nonneg (if c < 0 then -(c + 1) else c) (show (n : Int) ≠ 0 by omega)
  omega

set_option maxRecDepth 100000 in
set_option maxHeartbeats 4000000 in
theorem filled_ok (K M O S z : Nat) (v av : Value) (P : List ByteArray) (l : List Int) (w : World) (hs : SpecOk K M O S z) (hw : IsWord K M O S z P) (ht : TextsAt w v P) (ha : IntsAt w av l) (hl : l.length ≤ 9223372036854775807) :
    Calls Try.prog 11 #[specV K M O S, .int .i64 (z : Int), v, av] w fun e w' => ∃ p, e = .returned (.pointer (some ⟨p, 0, none⟩)) ∧ w.heap.size ≤ p ∧ BoxAt w' p K (K + M) z (ofs K M O S) (fillTo K M O S P l l.length) ∧ Below w.heap.size w w' := by
  obtain ⟨hK, hM, hO, hS, hz⟩ := hs
  obtain ⟨ao, acap, rfl, hac, ha⟩ := ha
  obtain ⟨to_, tcap, rfl, htc, ht⟩ := ht
  have hlen := hw.len
  have HA := hide ha
  have HT := hide ht
  have HW := hide hw
  have hfok := fun k => fillTo_ok hw hK l k
  have hfs : ∀ k, fillTo K M O S P l (k + 1) = putK (fillTo K M O S P l k) (ofs K M O S (placeOf (K + M) (l.getD k 0))) (P.getD (placeOf (K + M) (l.getD k 0)) ByteArray.empty) := fun k => rfl
  have HF := hide hfok
  have HS := hide hfs
  clear ha ht hw hfok hfs
  go_enter Try.func11, Try.ntmps11
  go_wp2_with fail
  refine (new_ok K M O S z _ hK hM hO hS hz).mono ?_
  rintro e w1 ⟨p, rfl, hbox, hp, hb1⟩
  rw [World.size_alloc] at hp hb1
  have hbw : Below w.heap.size w w1 := ((Below.refl _ _).alloc (Nat.le_refl _) _).trans (hb1.mono (by omega))
  clear hb1
  go_wp2_with fail
  go_loopw [28] (fun iv wr => ∃ k : Nat, k ≤ l.length ∧ iv = .int .i64 (k : Int) ∧ BoxAt wr p K (K + M) z (ofs K M O S) (fillTo K M O S P l k) ∧ Below w.heap.size w wr) (fun iv _ => l.length - (intOf iv).toNat)
  case atStart => exact ⟨0, Nat.zero_le _, rfl, hbox, hbw⟩
  case round =>
    clear hbox hbw
    obtain ⟨k, hk, rfl, hbox, hbw⟩ := hrel
    by_cases hlt : k < l.length
    · obtain ⟨q, o, rfl, hq, hc, c1, c2⟩ := HA.out k hlt
      have hc2 := (hbw.cell (p := ⟨q, o + k, none⟩) hq).trans hc
      have hsk := HS.out k
      have hok := HF.out k
      have hpl := placeOf_lt (K + M) (l.getD k 0) (by omega)
      have hpp := pick_place (l.getD k 0) (K + M) (by omega)
      rw [Int.natCast_add] at hpp
      obtain ⟨q2, o2, rfl, hq2, ht2⟩ := HT.out (placeOf (K + M) (l.getD k 0)) (by omega)
      have ht3 := (hbw.cell (p := ⟨q2, o2 + placeOf (K + M) (l.getD k 0), none⟩) hq2).trans ht2
      have hpe : putE (left (fillTo K M O S P l k) (ofs K M O S (placeOf (K + M) (l.getD k 0))) (P.getD (placeOf (K + M) (l.getD k 0)) ByteArray.empty)) z = 0 := by
        unfold putE
        rw [if_neg (fun h => h.2 (hok.nought HW.out hpl h.1))]
      have hps := HW.out.at_size hpl
      have Hsk := hide hsk
      have Hpe := hide hpe
      clear hc ht2 hsk hpe
      generalize l.getD k 0 = c at *
      generalize placeOf (K + M) c = pl at *
      generalize P.getD pl ByteArray.empty = pc at *
      have i1 : (0 : Int) ≤ (k : Int) := by omega
      have i2 : (k : Int) < (l.length : Int) := by omega
      have i3 : (0 : Int) ≤ (pl : Int) := by omega
      have i4 : (pl : Int) < (K : Int) + (M : Int) := by omega
      have Hpp := hide hpp
      clear hpp
      go_wp2_with fail
      refine (pick_any c _ _ c1 c2 (by omega)).mono ?_
      rintro e w2 ⟨rfl, hw2⟩
      obtain rfl := hw2.symm
      rw [Hpp.out]
      go_wp2_with fail
      refine (put_ok p K (K + M) z pl _ (ofs K M O S) _ _ hK.2 hok.ok (ofs_lt K M O S) (by omega) (by omega) hpl hps hbox).mono ?_
      rintro e w3 ⟨rfl, hbox3, hcg⟩
      rw [Hpe.out]
      have hbw3 := below_chg hbw hcg (fun k hk => by rw [hk]; omega)
      rw [← Hsk.out] at hbox3
      clear hbox hcg hbw hc2 ht3
      go_wp2_with fail
      go_roundw
      case rel => exact ⟨k + 1, by omega, by go_num, hbox3, hbw3⟩
      case measure => simp [intOf]; omega
    · have hkk : k = l.length := by omega
      subst hkk
      go_wp2_with fail
      go_ret
      exact ⟨p, rfl, by omega, hbox, hbw⟩

end Go.Proofs.Ytnjaofkieajnlab

/- Posted: a large object arrives whole or not at all. -/
namespace Go.Proofs.Ytnjaofkieajnlab
open Go.RowKit

/-- What the walk needs of the sheets. -/
structure MailedBy (K M O S z c : Nat) (t : ByteArray) (L : List ByteArray) : Prop where
  each : ∀ k, k < L.length → ∃ p i, p < c ∧ i < K + M ∧ L.getD k ByteArray.empty = sheetB p c (packB K M O S z i ((objWord K M O S z (partT t (K * z - 2) p)).getD i ByteArray.empty))
  all : ∀ p i, p < c → i < K + M → ∃ k, k < L.length ∧ L.getD k ByteArray.empty = sheetB p c (packB K M O S z i ((objWord K M O S z (partT t (K * z - 2) p)).getD i ByteArray.empty))

theorem mailT_by (K M O S z : Nat) (t : ByteArray) (x : Nat) : MailedBy K M O S z (partsN t (K * z - 2)) t (mailT K M O S z t x) := by
  have hpk : ∀ p j, j < K + M → (partL K M O S z t p).getD j ByteArray.empty = packB K M O S z j ((objWord K M O S z (partT t (K * z - 2) p)).getD j ByteArray.empty) := fun p j hj => packTo_getD K M O S z _ (K + M) j hj
  have hmem : ∀ y, y ∈ mailT K M O S z t x ↔ ∃ p, p < partsN t (K * z - 2) ∧ ∃ j, j < K + M ∧ y = sheetB p (partsN t (K * z - 2)) ((partL K M O S z t p).getD j ByteArray.empty) := fun y => by
    unfold mailT
    rw [← mem_sheetsTo]
    generalize sheetsTo K M O S z (partsN t (K * z - 2)) t (partsN t (K * z - 2)) = D
    have hi : D.length - 1 < D.length ∨ D.length - 1 = 0 := by omega
    exact ⟨fun h => mem_mixFrom _ _ _ _ hi _ h, fun h => mixFrom_mem _ _ _ _ hi _ h⟩
  refine ⟨fun k hk => ?_, fun p i hp hi => ?_⟩
  · obtain ⟨p, hp, j, hj, e⟩ := (hmem _).1 (getD_mem hk ByteArray.empty)
    exact ⟨p, j, hp, hj, by rw [e, hpk p j hj]⟩
  · obtain ⟨k, hk, e⟩ := List.mem_iff_getElem.1 ((hmem _).2 ⟨p, hp, i, hi, rfl⟩)
    exact ⟨k, hk, by rw [List.getD_eq_getElem?_getD, List.getElem?_eq_getElem hk, ← hpk p i hi, ← e]; rfl⟩

/-- The sheets taken up to n. -/
def TakenTo (K M O S z c : Nat) (t : ByteArray) (L : List ByteArray) (n : Nat) (s : IS) : Prop :=
  ∀ k, k < n → ∀ p i, p < c → i < K + M → L.getD k ByteArray.empty = sheetB p c (packB K M O S z i ((objWord K M O S z (partT t (K * z - 2) p)).getD i ByteArray.empty)) → toldP K M O S s p i

/-- One sheet more. -/
theorem posted_step {K M O S z c : Nat} {t : ByteArray} {L : List ByteArray} (hb : MailedBy K M O S z c t L) (hs : SpecOk K M O S z) (h3 : 3 ≤ K * z) (hc : c = partsN t (K * z - 2)) (hc2 : c ≤ 20) {n : Nat} (hn : n < L.length) {s : IS} (hp : PosOk K M O S z c (fun p => objWord K M O S z (partT t (K * z - 2) p)) s) (ht : TakenTo K M O S z c t L n s) :
    takeE s (L.getD n ByteArray.empty) = 0 ∧ PosOk K M O S z c (fun p => objWord K M O S z (partT t (K * z - 2) p)) (takeS s (L.getD n ByteArray.empty)) ∧ TakenTo K M O S z c t L (n + 1) (takeS s (L.getD n ByteArray.empty)) ∧ (takeS s (L.getD n ByteArray.empty)).parts ≠ [] := by
  have hw : ∀ p, p < c → IsWord K M O S z (objWord K M O S z (partT t (K * z - 2) p)) := fun p hp => objWord_is _ (by have := (partT_in t (K * z - 2) p (by omega) (by omega)).2; omega)
  obtain ⟨p, i, hpc, hik, e⟩ := hb.each n hn
  obtain ⟨a1, a2, a3, a4⟩ := hp.take hs hc2 hw hpc hik e
  refine ⟨a1, a2, fun k hk p' i' hp' hi' e' => ?_, a3.1⟩
  by_cases hkn : k < n
  · exact a4 p' i' hp' (ht k hkn p' i' hp' hi' e')
  · have hkk : k = n := by omega
    rw [hkk] at e'
    exact (hp.take hs hc2 hw hp' hi' e').2.2.1

theorem posted_tail (K M O S z : Nat) (t : ByteArray) (x : Nat) (hs : SpecOk K M O S z) (h3 : 3 ≤ K * z) (hts : t.size ≤ 20 * (K * z - 2)) : (mailT K M O S z t x).length ≤ 800 ∧ 1 ≤ (mailT K M O S z t x).length ∧ partsN t (K * z - 2) ≤ 20 := by
  have h1 := (partsN_le (t := t) (n := K * z - 2) (c := 20) (by omega) (by omega)).2 hts
  have h2 := partsN_pos t (K * z - 2) (by omega)
  rw [mailT_length]
  have hK := hs.hK
  have hM := hs.hM
  exact ⟨Nat.le_trans (Nat.mul_le_mul h1 (show K + M ≤ 40 by omega)) (by decide), Nat.mul_pos (by omega) (by omega), h1⟩

theorem keepPick_nat (c : Int) (n : Nat) (w : World) (h1 : -9223372036854775808 ≤ c) (h2 : c ≤ 9223372036854775807) (hn : 0 < n) :
    Calls Try.prog 13 #[.int .i64 c, .int .i64 (n : Int)] w fun e w' => e = .returned (.int .i64 (placeOf n c : Int)) ∧ w' = w := by
  rw [← pick_place c n hn]
  exact pick_any c n w h1 h2 (by omega)

set_option maxRecDepth 100000 in
set_option maxHeartbeats 8000000 in
theorem posted_any (c : Int) (text : ByteArray) (order lost : Int) (w : World) (h1 : -9223372036854775808 ≤ c) (h2 : c ≤ 9223372036854775807) (o1 : -9223372036854775808 ≤ order) (o2 : order ≤ 9223372036854775807) (l1 : -9223372036854775808 ≤ lost) (l2 : lost ≤ 9223372036854775807) :
    Calls Try.prog 7 #[.int .i64 c, .string text, .int .i64 order, .int .i64 lost] w fun e w' => e = .returned (.bool true) ∧ Below w.heap.size w w' := by
  go_enter Try.func7, Try.ntmps7
  go_wp2_with fail
  refine (spec_any c _ h1 h2).mono ?_
  rintro e w1 ⟨K, M, O, S, z, rfl, hs, hb1⟩
  have hz := hs.hz
  have hK := hs.hK
  have hsp : (w1.alloc (specB K M O S)).heap[w1.heap.size]? = some (specB K M O S) := heap_alloc_new w1 _
  have hbA : Below w.heap.size w (w1.alloc (specB K M O S)) := hb1.alloc hb1.size _
  have hc0 : (K : Int) * (z : Int) = ((K * z : Nat) : Int) := by simp
  have hb320 : K * z ≤ 320 := Nat.le_trans (Nat.mul_le_mul hK.2 hz.2) (by decide)
  have hpos : 1 ≤ K * z := Nat.mul_pos (by omega) (by omega)
  have c1 : (K : Int) * (z : Int) ≤ 320 := by rw [hc0]; omega
  have c2 : (1 : Int) ≤ (K : Int) * (z : Int) := by rw [hc0]; omega
  obtain ⟨x0, x1, x2, x3⟩ := spec_cells hsp
  have f0 : (w1.alloc (specB K M O S)).frozen? ⟨w1.heap.size, 0, none⟩ = false := found_frozen hsp 0
  have Hc0 := hide hc0
  have Hs := hide hs
  clear hc0 hs
  have hws := hb1.size
  go_upto_if 32 with fail
  generalize w1.alloc (specB K M O S) = W0 at *
  go_cut [] (fun wc => ∃ k : Nat, SpecOk k M O S z ∧ 3 ≤ k * z ∧ wc.heap[w1.heap.size]? = some (specB k M O S) ∧ Below w.heap.size w wc)
  case first =>
    have hor : (K : Int) * (z : Int) < 3 ∨ ¬ (K : Int) * (z : Int) < 3 := by omega
    rcases hor with hlt | hlt
    · have hsp2 : (W0.setCell ⟨w1.heap.size, 0, none⟩ (.int .i64 3)).heap[w1.heap.size]? = some (specB (3 : Nat) M O S) := heap_setCell_same _ w1.heap.size 0 _ _ (.int .i64 3) hsp
      have hbB : Below w.heap.size w (W0.setCell ⟨w1.heap.size, 0, none⟩ (.int .i64 3)) := hbA.setCell (p := ⟨w1.heap.size, 0, none⟩) hws _
      have HE : Hid (∃ k : Nat, SpecOk k M O S z ∧ 3 ≤ k * z ∧ (W0.setCell ⟨w1.heap.size, 0, none⟩ (.int .i64 3)).heap[w1.heap.size]? = some (specB k M O S) ∧ Below w.heap.size w (W0.setCell ⟨w1.heap.size, 0, none⟩ (.int .i64 3))) := hide ⟨3, ⟨by omega, Hs.out.hM, Hs.out.hO, Hs.out.hS, Hs.out.hz⟩, by omega, hsp2, hbB⟩
      clear hsp hsp2 hbA hbB
      go_wp2_with fail
      go_meet
      case rel => exact HE.out
    · have HE : Hid (∃ k : Nat, SpecOk k M O S z ∧ 3 ≤ k * z ∧ W0.heap[w1.heap.size]? = some (specB k M O S) ∧ Below w.heap.size w W0) := hide ⟨K, Hs.out, by have := Hc0.out; omega, hsp, hbA⟩
      clear hsp hbA
      go_wp2_with fail
      go_meet
      case rel => exact HE.out
  case rest =>
  obtain ⟨k, hs, h3, hsp, hbW⟩ := hcut
  clear x0 x1 x2 x3 f0 hb1 c1 c2 hb320 hpos Hc0 Hs hK hbA
  have hK := hs.hK
  have hc0 : (k : Int) * (z : Int) = ((k * z : Nat) : Int) := by simp
  have hb320 : k * z ≤ 320 := Nat.le_trans (Nat.mul_le_mul hK.2 hz.2) (by decide)
  have c1 : (k : Int) * (z : Int) ≤ 320 := by rw [hc0]; omega
  have c2 : (3 : Int) ≤ (k : Int) * (z : Int) := by rw [hc0]; omega
  have Hc0 := hide hc0
  clear hc0
  obtain ⟨x0, x1, x2, x3⟩ := spec_cells hsp
  go_upto_if 43 with fail
  go_cut [1] (fun s1 wd => ∃ t : ByteArray, s1 = .string t ∧ t.size ≤ 20 * (k * z - 2) ∧ wd = wc)
  case first =>
    have hor : 20 * ((k : Int) * (z : Int) - 2) < (text.size : Int) ∨ ¬ 20 * ((k : Int) * (z : Int) - 2) < (text.size : Int) := by omega
    rcases hor with hlt | hlt
    · have i2 : 20 * ((k : Int) * (z : Int) - 2) ≤ (text.size : Int) := by omega
      have i3 : (0 : Int) ≤ 20 * ((k : Int) * (z : Int) - 2) := by omega
      have Hi := hide (And.intro i2 i3)
      go_wp2_with fail
      go_meet
      case rel =>
        refine ⟨_, rfl, ?_, rfl⟩
        have h1 := Hc0.out
        have h2 := Hi.out
        rw [ByteArray.size_extract]
        omega
    · have Hl := hide hlt
      go_wp2_with fail
      go_meet
      case rel => exact ⟨_, rfl, by have h1 := Hc0.out; have h2 := Hl.out; omega, rfl⟩
  case rest =>
  obtain ⟨t, rfl, hts, rfl⟩ := hcut
  obtain ⟨V, hV⟩ : ∃ V, V = wc := ⟨_, rfl⟩
  subst hV
  obtain ⟨n800, n1, hp20⟩ := posted_tail k M O S z t (placeOf 65536 order) hs h3 hts
  have hplo := placeOf_lt 65536 order (by omega)
  have hma := fun W => mail_ok k M O S z t (placeOf 65536 order) W ⟨hs, h3, hts, by omega⟩
  have hpi := fun W => keepPick_nat order 65536 W o1 o2 (by omega)
  have hby := mailT_by k M O S z t (placeOf 65536 order)
  have hstep := fun n hn s hp ht => posted_step hby hs h3 rfl hp20 (n := n) hn (s := s) hp ht
  have hwh := fun s (h : PosOk k M O S z (partsN t (k * z - 2)) (fun p => objWord k M O S z (partT t (k * z - 2) p)) s) => h.whole hs h3 rfl
  have hdo := fun s (h : PosOk k M O S z (partsN t (k * z - 2)) (fun p => objWord k M O S z (partT t (k * z - 2) p)) s) (ht : TakenTo k M O S z (partsN t (k * z - 2)) t (mailT k M O S z t (placeOf 65536 order)) (mailT k M O S z t (placeOf 65536 order)).length s) => h.done hs h3 rfl (fun p hp j hj => by
    obtain ⟨q, hq, e⟩ := hby.all p j hp (by omega)
    exact ht q hq p j hp (by omega) e)
  have hnew := PosOk.new k M O S z (partsN t (k * z - 2)) (fun p => objWord k M O S z (partT t (k * z - 2) p))
  obtain ⟨PP, hPP⟩ : ∃ PP : IS → Prop, PP = fun s => PosOk k M O S z (partsN t (k * z - 2)) (fun p => objWord k M O S z (partT t (k * z - 2) p)) s := ⟨_, rfl⟩
  have hPok : ∀ s, PP s → ISok s := fun s h => by rw [hPP] at h; exact h.ok
  obtain ⟨TT, hTT⟩ : ∃ TT : Nat → IS → Prop, TT = fun n s => TakenTo k M O S z (partsN t (k * z - 2)) t (mailT k M O S z t (placeOf 65536 order)) n s := ⟨_, rfl⟩
  have hstep2 : ∀ n, n < (mailT k M O S z t (placeOf 65536 order)).length → ∀ s, PP s → TT n s → takeE s ((mailT k M O S z t (placeOf 65536 order)).getD n ByteArray.empty) = 0 ∧ PP (takeS s ((mailT k M O S z t (placeOf 65536 order)).getD n ByteArray.empty)) ∧ TT (n + 1) (takeS s ((mailT k M O S z t (placeOf 65536 order)).getD n ByteArray.empty)) ∧ (takeS s ((mailT k M O S z t (placeOf 65536 order)).getD n ByteArray.empty)).parts ≠ [] := fun n hn s hp ht => by
    rw [hPP] at hp ⊢
    rw [hTT] at ht ⊢
    exact hstep n hn s hp ht
  have hwh2 : ∀ s, PP s → (s.parts ≠ [] ∧ wholeE s = (t, 0)) ∨ wholeE s = (⟨#[]⟩, 5) := fun s h => by rw [hPP] at h; exact hwh s h
  have hdo2 : ∀ s, PP s → TT (mailT k M O S z t (placeOf 65536 order)).length s → wholeE s = (t, 0) ∧ lackE s = 0 := fun s h h' => by
    rw [hPP] at h
    rw [hTT] at h'
    exact hdo s h h'
  have hnew2 : PP IS.zero := by rw [hPP]; exact hnew
  have htt0 : TT 0 IS.zero := by rw [hTT]; exact fun k hk => absurd hk (Nat.not_lt_zero _)
  clear hPP hTT hstep hwh hdo hnew hby hts hplo
  obtain ⟨x0, x1, x2, x3⟩ := spec_cells hsp
  generalize placeOf 65536 order = od at *
  generalize mailT k M O S z t od = L at *
  have HST := hide hstep2
  have HWH := hide hwh2
  have HDO := hide hdo2
  have HOK := hide hPok
  clear hstep2 hwh2 hdo2 hPok c1 c2 Hc0 hb320 h3
  have hpi2 : ∀ W, Calls Try.prog 13 #[.int .i64 order, .int .i64 65536] W fun e w' => e = .returned (.int .i64 (od : Int)) ∧ w' = W := hpi
  clear hpi
  go_upto_region 7 with fail
  go_cut [12, 13] (fun s12 s13 wd => s13 = .int .i64 0 ∧ wd.ownsRow V.heap.size 9 1 s12 L.length (textV L) ∧ Below V.heap.size V wd)
  case first =>
    go_region_held3 (fun w' => w'.cell? ⟨w1.heap.size, 0, none⟩ = some (.int .i64 (k : Int)) ∧ w'.cell? ⟨w1.heap.size, 1, none⟩ = some (.int .i64 (M : Int)) ∧ w'.cell? ⟨w1.heap.size, 2, none⟩ = some (.int .i64 (O : Int)) ∧ w'.cell? ⟨w1.heap.size, 3, none⟩ = some (.int .i64 (S : Int)))
      (first | (exact ⟨d0, d1, d2, d3⟩) | (exact ⟨x0, x1, x2, x3⟩) | go_keep)
      (first
        | (go_at_call 13; refine (hpi2 _).mono ?_; rintro e w2 ⟨rfl, h2⟩; obtain rfl := h2.symm)
        | (go_at_call 23; refine (hma _).mono ?_; rintro e w3 ⟨v3, rfl, hown3, hb3⟩; obtain ⟨d0, d1, d2, d3⟩ := spec_cells (block_on (w := V.drew) hsp hb3)))
    all_goals
      go_wp2_with fail
      go_meet
      case rel => exact ⟨rfl, hown3, ⟨hb3.os, hb3.tape, hb3.output, hb3.size, hb3.block⟩⟩
  case rest =>
  obtain ⟨rfl, hown, hbM⟩ := hcut
  obtain ⟨wd, hwd⟩ : ∃ wd, wd = wc := ⟨_, rfl⟩
  subst hwd
  have hbD := hbW.trans (hbM.mono hbW.size)
  obtain ⟨g, gcap, rfl, hg, hgl⟩ := hown.form (by omega)
  have hTc : ∀ i, i < L.length → wd.cell? ⟨g, i, none⟩ = some (.string (L.getD i ByteArray.empty)) := fun i hi => by
    rw [hown.cellAt i (by omega), textV_get L i hi]
  clear x0 x1 x2 x3 hsp hbM hma hpi2 hown hbW
  go_wp2_with fail
  refine (open_any _).mono ?_
  rintro e w4 ⟨p, rfl, hin, hp, hb4⟩
  have hbw4 := hbD.trans (hb4.mono hbD.size)
  have hT4 : ∀ i, i < L.length → w4.cell? ⟨g, i, none⟩ = some (.string (L.getD i ByteArray.empty)) := fun i hi => (hb4.cell (p := ⟨g, i, none⟩) hgl).trans (hTc i hi)
  have hg4 : g < w4.heap.size := Nat.lt_of_lt_of_le hgl hb4.size
  have hgp : g ≠ p := by omega
  have hwp : w.heap.size ≤ p := by have := hbD.size; omega
  have hlen0 : ((L.length : Int) == 0) = false := beq_eq_false_iff_ne.2 (by omega)
  have HT := hide hT4
  clear hTc hT4 hbD hb4 hg hgl
  have hml := placeOf_lt (L.length + 1) lost (by omega)
  have hpk := fun W => keepPick_nat lost (L.length + 1) W l1 l2 (by omega)
  rw [Int.natCast_add] at hpk
  have hpk2 : ∀ W, Calls Try.prog 13 #[.int .i64 lost, .int .i64 ((L.length : Int) + 1)] W fun e w' => e = .returned (.int .i64 (placeOf (L.length + 1) lost : Int)) ∧ w' = W := hpk
  clear hpk
  generalize placeOf (L.length + 1) lost = m at *
  obtain ⟨N, hN⟩ : ∃ N, N = L.length := ⟨_, rfl⟩
  rw [← hN] at HST HDO HT hlen0 hml hpk2 n800 n1
  rw [← hN]
  clear hN
  go_wp2_with fail
  refine (hpk2 _).mono ?_
  rintro e w5 ⟨rfl, h5⟩
  obtain rfl := h5.symm
  clear hpk2
  go_wp2_with fail
  go_loopw [75] (fun kv wr => ∃ (n : Nat) (s : IS), n ≤ m ∧ kv = .int .i64 (n : Int) ∧ ProgInb wr p 74 s ∧ PP s ∧ TT n s ∧ (n = 0 → s = IS.zero) ∧ Chg (fun q => q = p) w4 wr) (fun kv _ => m - (intOf kv).toNat)
  case atStart => exact ⟨0, IS.zero, Nat.zero_le _, rfl, hin, hnew2, htt0, fun _ => rfl, Chg.refl _ _⟩
  case round =>
    clear hin
    obtain ⟨n, s, hn, rfl, hpi, hpp, htt, hzero, hcg⟩ := hrel
    have Hzero := hide hzero
    clear hzero
    by_cases hlt : n < m
    · have ht3 := (hcg.cell (a := ⟨g, n, none⟩) hg4 hgp).trans (HT.out n (by omega))
      obtain ⟨u1, u2, u3, u4⟩ := HST.out n (by omega) s hpp htt
      have hh1 := fun W h => take_by p (L.getD n ByteArray.empty) _ _ W (otake_any p 74 s (L.getD n ByteArray.empty) W h (HOK.out s hpp))
      rw [u1] at hh1
      generalize takeS s (L.getD n ByteArray.empty) = s2 at *
      generalize L.getD n ByteArray.empty = tx at *
      have i1 : (0 : Int) ≤ (n : Int) := by omega
      have i2 : (n : Int) < (N : Int) := by omega
      have i3 : (n : Int) < (m : Int) := by omega
      clear u1
      go_wp2_with fail
      refine (hh1 _ hpi).mono ?_
      rintro e w6 ⟨rfl, hpi6, hcg6⟩
      have hcg7 := hcg.trans hcg6 (fun _ _ h => h)
      clear hh1 hpi hcg hcg6 ht3
      go_wp2_with fail
      go_roundw
      case rel => exact ⟨n + 1, s2, by omega, by go_num, hpi6, u2, u3, fun h => absurd h (by omega), hcg7⟩
      case measure => simp [intOf]; omega
    · have hnm : n = m := by omega
      have i3 : ¬ (n : Int) < (m : Int) := by omega
      have hw1 := fun W h => whole_by p _ _ _ W (owhole_any p 74 s W h (HOK.out s hpp))
      have hres : ((wholeE s).2 = 0 ∧ (wholeE s).1 = t ∧ m ≠ 0) ∨ ((wholeE s).2 = 5 ∧ (wholeE s).1 = ⟨#[]⟩) := by
        rcases HWH.out s hpp with ⟨a, b⟩ | b
        · left
          rw [b]
          exact ⟨rfl, rfl, fun e => a (by rw [Hzero.out (by omega)]; rfl)⟩
        · right
          rw [b]
          exact ⟨rfl, rfl⟩
      generalize (wholeE s).1 = xo at *
      generalize (wholeE s).2 = no at *
      rw [hnm] at htt
      have HR := hide hres
      clear hres hnm hlt Hzero HWH
      go_wp2_with fail
      refine (hw1 _ hpi).mono ?_
      rintro e w6 ⟨rfl, hb6⟩
      have hpi6 := hpi.on hb6
      have hcg6 := hcg.trans (Chg.of_below hb6 (fun _ => False)) (fun _ _ h => h.elim)
      clear hw1 hpi hcg hb6
      go_upto_region 20 with fail
      go_cut [114] (fun s114 wx => s114 = .bool false ∧ wx = w6)
      case first =>
        rcases HR.out with ⟨rfl, rfl, hm0⟩ | ⟨rfl, rfl⟩
        · have hmb : ((m : Int) == 0) = false := beq_eq_false_iff_ne.2 (by omega)
          have hse : (xo.toList == xo.toList) = true := by simp
          clear hm0
          go_wp2_with fail
          go_meet
          case rel => exact ⟨rfl, rfl⟩
        · go_wp2_with fail
          go_meet
          case rel => exact ⟨rfl, rfl⟩
      case rest =>
      obtain ⟨rfl, rfl⟩ := hcut
      clear HR
      go_wp2_with fail
      go_loopw [20] (fun kv wr => ∃ (n : Nat) (s : IS), n ≤ N ∧ kv = .int .i64 (n : Int) ∧ ProgInb wr p 74 s ∧ PP s ∧ TT n s ∧ Chg (fun q => q = p) w4 wr) (fun kv _ => N - (intOf kv).toNat)
      case atStart => exact ⟨m, s, by omega, rfl, hpi6, hpp, htt, hcg6⟩
      case round =>
        clear hpi6 hcg6 hpp htt
        obtain ⟨n, s, hn, rfl, hpi, hpp, htt, hcg⟩ := hrel
        by_cases hlt : n < N
        · have ht3 := (hcg.cell (a := ⟨g, n, none⟩) hg4 hgp).trans (HT.out n hlt)
          obtain ⟨u1, u2, u3, u4⟩ := HST.out n hlt s hpp htt
          have hh1 := fun W h => take_by p (L.getD n ByteArray.empty) _ _ W (otake_any p 74 s (L.getD n ByteArray.empty) W h (HOK.out s hpp))
          rw [u1] at hh1
          generalize takeS s (L.getD n ByteArray.empty) = s2 at *
          generalize L.getD n ByteArray.empty = tx at *
          have i1 : (0 : Int) ≤ (n : Int) := by omega
          have i2 : (n : Int) < (N : Int) := by omega
          clear u1
          go_wp2_with fail
          refine (hh1 _ hpi).mono ?_
          rintro e w7 ⟨rfl, hpi7, hcg7⟩
          have hcg8 := hcg.trans hcg7 (fun _ _ h => h)
          clear hh1 hpi hcg hcg7 ht3
          go_wp2_with fail
          go_roundw
          case rel => exact ⟨n + 1, s2, by omega, by go_num, hpi7, u2, u3, hcg8⟩
          case measure => simp [intOf]; omega
        · have hnN : n = N := by omega
          have i2 : ¬ (n : Int) < (N : Int) := by omega
          obtain ⟨e1, e2⟩ := HDO.out s hpp (by rw [← hnN]; exact htt)
          have hw1 := fun W h => whole_by p _ _ _ W (owhole_any p 74 s W h (HOK.out s hpp))
          have hl1 := fun W h => lacks_by p _ _ W (olacks_any p 74 s W h (HOK.out s hpp))
          rw [e1] at hw1
          rw [e2] at hl1
          dsimp only at hw1
          have hbwr : Below w.heap.size w wr := below_chg hbw4 hcg (fun q e => by rw [e]; exact hwp)
          have hse : (t.toList == t.toList) = true := by simp
          clear e1 e2 hnN hlt hcg
          go_wp2_with fail
          refine (hw1 _ hpi).mono ?_
          rintro e w7 ⟨rfl, hb7⟩
          have hpi7 := hpi.on hb7
          have hbf := hbwr.trans (hb7.mono hbwr.size)
          clear hw1 hpi hb7 hbwr
          go_wp2_with fail
          refine (hl1 _ hpi7).mono ?_
          rintro e w8 ⟨rfl, e8⟩
          obtain rfl := e8.symm
          clear hl1 hpi7
          go_wp2_with fail
          go_ret
          exact ⟨by first | rfl | simp, hbf⟩

end Go.Proofs.Ytnjaofkieajnlab

/- For every specification, whatever its four numbers, the law Rowed answers true: the program's Rows gives what the document asks, or its error; no condition. -/
namespace Go.Proofs.Ytnjaofkieajnlab
open Go.ChangeShapes Go.WideShapes Go.ChangeAt Go.RowKit Go.Joins

theorem Try.own : ownKnob Try.prog.godebug = none := by kernel_rfl
theorem Try.laidOut : laidOutB Try.prog = true := by kernel_rfl
theorem Try.cellsSpec : Try.prog.cellsOf 24 = 4 := by kernel_rfl

end Go.Proofs.Ytnjaofkieajnlab

/- A slice of ints that came in, opened. -/
namespace Go.Proofs.Ytnjaofkieajnlab
open Go.ChangeShapes Go.WideShapes Go.ChangeAt Go.RowKit Go.Joins

theorem Try.cellsInt : Try.prog.cellsOf 3 = 1 := by kernel_rfl

set_option maxRecDepth 100000 in
/-- A slice of ints that came in. -/
theorem ints_open {H : Type} {enc : TypeId × Value → H} {W : World} {v : Value} {d : DataW H} {p : List MemPlace} {base : Nat} (hv : Value.okWide Try.prog W .any base 22 v)
    (h : DataW.Trod enc Try.prog W 0 (fun _ => true) true 22 v d p) : ∃ l : List Int, IntsAt W v l ∧ l.length ≤ 9223372036854775807 := by
  obtain ⟨a0, len, cap, rfl⟩ := okWide_slice Try.underlying22 hv
  obtain ⟨fuel, hf⟩ := h
  rcases open_ints Try.underlying22 Try.underlying3 Try.cellsInt hf with ⟨hcs, _⟩ | ⟨x, l, c, zs, hcs, _, hl, hm, hz, hx, hcell, hwf⟩
  · simp [Value.cells] at hcs
    obtain ⟨rfl, rfl, rfl⟩ := hcs
    exact ⟨[], ⟨none, 0, rfl, Nat.le_refl _, fun k hk => by simp at hk⟩, by simp⟩
  · simp [Value.cells] at hcs
    obtain ⟨rfl, rfl, rfl⟩ := hcs
    have hss : zs.length = cap := by simpa using hz
    have hlen : (zs.take len).length = len := by rw [List.length_take]; omega
    unfold maxLen at hm
    refine ⟨zs.take len, ⟨some x, cap, by rw [hlen], by rw [hlen]; exact hl, fun k hk => ?_⟩, by rw [hlen]; omega⟩
    rw [hlen] at hk
    have hc := hcell k (by omega)
    have hb := block_lt_of_cell hc
    obtain ⟨b, off, sp⟩ := x
    have hsp : sp = none := by
      cases sp with
      | none => rfl
      | some s =>
        have h0 := hcell 0 (by omega)
        unfold Addr.add at h0
        unfold World.cell? at h0
        simp at h0
        split at h0 <;> simp at h0
    subst hsp
    rw [Addr.add_mid] at hc hb
    have hg : (zs.take len).getD k 0 = zs.getD k 0 := by simp [List.getD_eq_getElem?_getD, hk]
    have hbd := bounds_i64 (hwf (zs.getD k 0) (by rw [List.getD_eq_getElem?_getD, List.getElem?_eq_getElem (show k < zs.length by omega)]; exact List.getElem_mem _))
    exact ⟨b, off, rfl, hb, by rw [hc, hg], by rw [hg]; exact hbd.1, by rw [hg]; exact hbd.2⟩

end Go.Proofs.Ytnjaofkieajnlab
