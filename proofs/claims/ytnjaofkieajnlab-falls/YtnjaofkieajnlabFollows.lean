/- Follows: of the pieces of a word none is refused, what is put in is got, and whatever follows is the word's. -/
import Derived.Test.YtnjaofkieajnlabFilled
namespace Go.Proofs.Ytnjaofkieajnlab
open Go.RowKit

/-- A word that is made lies in memory: the text's pieces and the program's spare ones. -/
theorem word_is (K M O S z : Nat) (l : List ByteArray) (hl : l.length = K) (hls : ∀ x ∈ l, x.size = z) : IsWord K M O S z (knownTo l (rowOf K M O S) z M) :=
  ⟨by rw [knownTo_length, hl], knownTo_size hls M, fun i hi => known_fits K M O S l z hls hl i hi⟩

set_option maxRecDepth 100000 in
set_option maxHeartbeats 4000000 in
theorem follows_any (c : Int) (text : ByteArray) (av : Value) (at_ : List Int) (w : World) (h1 : -9223372036854775808 ≤ c) (h2 : c ≤ 9223372036854775807) (ht : text.size ≤ 9223372036854775807) (ha : IntsAt w av at_) (hal : at_.length ≤ 9223372036854775807) :
    Calls Try.prog 3 #[.int .i64 c, .string text, av] w fun e w' => e = .returned (.bool true) ∧ Below w.heap.size w w' := by
  go_enter Try.func3, Try.ntmps3
  go_wp2_with fail
  refine (spec_any c _ h1 h2).mono ?_
  rintro e w1 ⟨K, M, O, S, z, rfl, hs, hb1⟩
  have Hs := hide hs
  have hz := hs.hz
  have hK := hs.hK
  have hM := hs.hM
  clear hs
  go_wp2_with fail
  have hsp : (w1.alloc (specB K M O S)).heap[w1.heap.size]? = some (specB K M O S) := heap_alloc_new w1 _
  have hbA : Below w.heap.size w (w1.alloc (specB K M O S)) := hb1.alloc hb1.size _
  obtain ⟨c0, c1, c2, c3⟩ := spec_cells hsp
  go_region_held3 (fun w' => w'.cell? ⟨w1.heap.size, 0, none⟩ = some (.int .i64 (K : Int)) ∧ w'.cell? ⟨w1.heap.size, 1, none⟩ = some (.int .i64 (M : Int)) ∧ w'.cell? ⟨w1.heap.size, 2, none⟩ = some (.int .i64 (O : Int)) ∧ w'.cell? ⟨w1.heap.size, 3, none⟩ = some (.int .i64 (S : Int)))
    (first | (exact ⟨d0, d1, d2, d3⟩) | (exact ⟨e0, e1, e2, e3⟩) | go_keep)
    (first
      | (go_at_call 10; refine (pieces_any K z text _ (by omega) (by omega) ht).mono ?_; rintro e w2 ⟨v2, l, rfl, hl, hls, hown2, hb2⟩; obtain ⟨d0, d1, d2, d3⟩ := spec_cells (block_on (w := (w1.alloc (specB K M O S)).drew) hsp hb2))
      | (go_at_call 9; refine (word_ok K M O S z _ l _ Hs.out hl hls (owns_texts hown2 hl.symm)).mono ?_; rintro e w3 ⟨v3, rfl, hown3, hb3⟩; obtain ⟨e0, e1, e2, e3⟩ := spec_cells (block_on (block_on (w := (w1.alloc (specB K M O S)).drew) hsp hb2) hb3)))
  have hs3 : w3.heap[w1.heap.size]? = some (specB K M O S) := block_on (block_on (w := (w1.alloc (specB K M O S)).drew) hsp hb2) hb3
  have hb2' : Below w.heap.size w w2 := hbA.drew.trans (hb2.mono (by have := hb1.size; simp; omega))
  have hbw3 : Below w.heap.size w w3 := hb2'.trans (hb3.mono hb2'.size)
  have hwd := word_is K M O S z l hl hls
  have htx := owns_texts hown3 hwd.len.symm
  have ha3 := ha.on (Nat.le_refl _) hbw3
  clear d0 d1 d2 d3 e0 e1 e2 e3 hb2 hb3 hown2 hown3 hbA hsp hb2' c0 c1 c2 c3 ha hl hls hb1
  rename_i hheld
  clear hheld
  generalize knownTo l (rowOf K M O S) z M = P at *
  obtain ⟨c0, c1, c2, c3⟩ := spec_cells hs3
  have Hwd := hide hwd
  have Htx := hide htx
  have Ha3 := hide ha3
  have hPl := hwd.len
  clear hwd htx ha3
  go_wp2_with fail
  refine (filled_ok K M O S z v3 av P at_ _ Hs.out Hwd.out Htx.out Ha3.out hal).mono ?_
  rintro e w4 ⟨p, rfl, hp, hbox, hb4⟩
  have hbw4 := hbw3.trans (hb4.mono hbw3.size)
  have hha := fillTo_has Hwd.out hK at_ at_.length
  have hfo := fillTo_ok Hwd.out hK at_ at_.length
  obtain ⟨ao, acap, rfl, hac, hA⟩ := Ha3.out.on (Nat.le_refl _) hb4
  obtain ⟨to_, tcap, rfl, htc, hT⟩ := Htx.out.on hb4
  generalize fillTo K M O S P at_ at_.length = kn at *
  have HA := hide hA
  have HT := hide hT
  have HH := hide hha
  have HO := hide hfo
  clear hA hT hha hfo c0 c1 c2 c3 hs3 hbw3 hb4 Htx Ha3
  go_wp2_with fail
  go_loopw [45] (fun iv wr => ∃ i : Nat, i ≤ K + M ∧ iv = .int .i64 (i : Int) ∧ BoxAt wr p K (K + M) z (ofs K M O S) kn ∧ Below w4.heap.size w4 wr) (fun iv _ => K + M - (intOf iv).toNat)
  case atStart => exact ⟨0, Nat.zero_le _, rfl, hbox, Below.refl _ _⟩
  case round =>
    clear hbox
    obtain ⟨i, hi, rfl, hbox, hbr⟩ := hrel
    by_cases hlt : i < K + M
    · obtain ⟨q, o, rfl, hq, hc⟩ := HT.out i (by omega)
      have hc2 := (hbr.cell (p := ⟨q, o + i, none⟩) hq).trans hc
      have hgv := fun h0 => HO.out.get Hwd.out hlt h0
      have i1 : (0 : Int) ≤ (i : Int) := by omega
      have i2 : (i : Int) < (K : Int) + (M : Int) := by omega
      have hget := get_ok p K (K + M) z i (ofs K M O S) kn
      clear hc
      generalize P.getD i ByteArray.empty = pc at *
      generalize left kn (ofs K M O S i) (zeroB z) = L at *
      go_wp2_with fail
      refine (hget _ hK.2 HO.out.ok (ofs_lt K M O S) (by omega) (by omega) hlt hbox).mono ?_
      rintro e w5 ⟨rfl, hb5⟩
      have hbox5 := hbox.on (Nat.le_refl _) hb5
      have hbr5 := hbr.trans (hb5.mono hbr.size)
      have hc5 := (hb5.cell (p := ⟨q, o + i, none⟩) (Nat.lt_of_lt_of_le hq hbr.size)).trans hc2
      clear hbox hbr hb5 hc2 hget
      by_cases h0 : L.1 = 0
      · rw [if_pos h0, hgv h0]
        clear hgv h0
        go_wp2_with fail
        go_roundw
        case rel => exact ⟨i + 1, by omega, by go_num, hbox5, hbr5⟩
        case measure => simp [intOf]; omega
      · rw [if_neg h0]
        clear hgv h0
        go_wp2_with fail
        go_roundw
        case rel => exact ⟨i + 1, by omega, by go_num, hbox5, hbr5⟩
        case measure => simp [intOf]; omega
    · obtain ⟨W, rfl⟩ : ∃ W, W = wr := ⟨_, rfl⟩
      go_wp2_with fail
      go_loopw [73] (fun kv wr => ∃ k : Nat, k ≤ at_.length ∧ kv = .int .i64 (k : Int) ∧ BoxAt wr p K (K + M) z (ofs K M O S) kn ∧ Below w4.heap.size w4 wr) (fun kv _ => at_.length - (intOf kv).toNat)
      case atStart => exact ⟨0, Nat.zero_le _, rfl, hbox, hbr⟩
      case round =>
        clear hbox hbr
        obtain ⟨k, hk, rfl, hbox, hbr⟩ := hrel
        by_cases hkl : k < at_.length
        · obtain ⟨q, o, rfl, hq, hc, b1, b2⟩ := HA.out k hkl
          have hc2 := (hbr.cell (p := ⟨q, o + k, none⟩) hq).trans hc
          have hpl := placeOf_lt (K + M) (at_.getD k 0) (by omega)
          have hpp := pick_place (at_.getD k 0) (K + M) (by omega)
          rw [Int.natCast_add] at hpp
          have hsp := HH.out k hkl
          clear hc
          generalize at_.getD k 0 = cc at *
          generalize placeOf (K + M) cc = pl at *
          obtain ⟨q2, o2, rfl, hq2, ht2⟩ := HT.out pl (by omega)
          have ht3 := (hbr.cell (p := ⟨q2, o2 + pl, none⟩) hq2).trans ht2
          have h0 := (left_ok HO.out.ok (ofs K M O S pl) (zeroB z) (zeroB_size z)).zero.2 hsp
          have hgv := HO.out.get Hwd.out hpl h0
          have hget := get_ok p K (K + M) z pl (ofs K M O S) kn
          have i1 : (0 : Int) ≤ (k : Int) := by omega
          have i2 : (k : Int) < (at_.length : Int) := by omega
          have i3 : (0 : Int) ≤ (pl : Int) := by omega
          have i4 : (pl : Int) < (K : Int) + (M : Int) := by omega
          have Hpp := hide hpp
          clear hsp ht2 hpp
          generalize P.getD pl ByteArray.empty = pc at *
          generalize left kn (ofs K M O S pl) (zeroB z) = L at *
          rw [if_pos h0, hgv] at hget
          clear h0 hgv
          go_wp2_with fail
          refine (pick_any cc _ _ b1 b2 (by omega)).mono ?_
          rintro e w5 ⟨rfl, hw5⟩
          obtain rfl := hw5.symm
          rw [Hpp.out]
          go_wp2_with fail
          refine (hget _ hK.2 HO.out.ok (ofs_lt K M O S) (by omega) (by omega) hpl hbox).mono ?_
          rintro e w6 ⟨rfl, hb6⟩
          have hbox6 := hbox.on (Nat.le_refl _) hb6
          have hbr6 := hbr.trans (hb6.mono hbr.size)
          have ht6 := (hb6.cell (p := ⟨q2, o2 + pl, none⟩) (Nat.lt_of_lt_of_le hq2 hbr.size)).trans ht3
          clear hbox hbr hb6 ht3 hget hc2
          go_wp2_with fail
          go_roundw
          case rel => exact ⟨k + 1, by omega, by go_num, hbox6, hbr6⟩
          case measure => simp [intOf]; omega
        · go_wp2_with fail
          go_ret
          exact ⟨rfl, hbw4.trans (hbr.mono hbw4.size)⟩

end Go.Proofs.Ytnjaofkieajnlab
