/- Words: data and the spare pieces that the program gives for them are a word to it; with one bit turned they are none. -/
import Derived.Test.YtnjaofkieajnlaaFlipped
import Derived.Test.YtnjaofkieajnlaaFitted
namespace Go.Proofs.Ytnjaofkieajnlaa
open Go.RowKit

theorem shaped_of {l : List ByteArray} {n z : Nat} (hl : l.length = n) (hn : 0 < n) (hs : ∀ x ∈ l, x.size = z) (hz : 1 ≤ z ∧ z ≤ 16) : Shaped l n ∧ (l.getD 0 ByteArray.empty).size = z := by
  have hget : ∀ k, k < l.length → (l.getD k ByteArray.empty).size = z := fun k hk => hs _ (by rw [List.getD_eq_getElem?_getD, List.getElem?_eq_getElem hk]; exact List.getElem_mem hk)
  exact ⟨⟨hl, fun k hk => by rw [hget k hk, hget 0 (by omega)]; omega⟩, hget 0 (by omega)⟩

set_option maxRecDepth 100000 in
set_option maxHeartbeats 2000000 in
theorem words_any (c d : Int) (text : ByteArray) (w : World) (h1 : -9223372036854775808 ≤ c) (h2 : c ≤ 9223372036854775807) (g1 : -9223372036854775808 ≤ d) (g2 : d ≤ 9223372036854775807) (ht : text.size ≤ 9223372036854775807) :
    Calls Try.prog 9 #[.int .i64 c, .string text, .int .i64 d] w fun e w' => e = .returned (.bool true) ∧ Below w.heap.size w w' := by
  go_enter Try.func9, Try.ntmps9
  go_wp2_with fail
  refine (spec_any c _ h1 h2).mono ?_
  rintro e w1 ⟨K, M, O, S, z, rfl, hs, hb1⟩
  have Hs := hide hs
  have hz := hs.hz
  have hK := hs.hK
  have hM := hs.hM
  have hO := hs.hO
  have hS := hs.hS
  clear hs
  go_wp2_with fail
  have hsp : (w1.alloc (specB K M O S)).heap[w1.heap.size]? = some (specB K M O S) := heap_alloc_new w1 _
  have hbA : Below w.heap.size w (w1.alloc (specB K M O S)) := hb1.alloc hb1.size _
  obtain ⟨c0, c1, c2, c3⟩ := spec_cells hsp
  go_region_held3 (fun w' => w'.cell? ⟨w1.heap.size, 0, none⟩ = some (.int .i64 (K : Int)) ∧ w'.cell? ⟨w1.heap.size, 1, none⟩ = some (.int .i64 (M : Int)) ∧ w'.cell? ⟨w1.heap.size, 2, none⟩ = some (.int .i64 (O : Int)) ∧ w'.cell? ⟨w1.heap.size, 3, none⟩ = some (.int .i64 (S : Int)))
    (first | (exact ⟨d0, d1, d2, d3⟩) | (exact ⟨e0, e1, e2, e3⟩) | go_keep)
    (first
      | (go_at_call 29; refine (pieces_any K z text _ (by omega) (by omega) ht).mono ?_; rintro e w2 ⟨v2, l, rfl, hl, hls, hown2, hb2⟩; obtain ⟨d0, d1, d2, d3⟩ := spec_cells (block_on (w := (w1.alloc (specB K M O S)).drew) hsp hb2))
      | (go_at_call 28; refine (word_ok K M O S z _ l _ Hs.out hl hls (owns_texts hown2 hl.symm)).mono ?_; rintro e w3 ⟨v3, rfl, hown3, hb3⟩; obtain ⟨e0, e1, e2, e3⟩ := spec_cells (block_on (block_on (w := (w1.alloc (specB K M O S)).drew) hsp hb2) hb3)))
  have hs3 : w3.heap[w1.heap.size]? = some (specB K M O S) := block_on (block_on (w := (w1.alloc (specB K M O S)).drew) hsp hb2) hb3
  have hb2' : Below w.heap.size w w2 := hbA.drew.trans (hb2.mono (by have := hb1.size; simp; omega))
  have hbw3 : Below w.heap.size w w3 := hb2'.trans (hb3.mono hb2'.size)
  have hlk := knownTo_length l (rowOf K M O S) z M
  have hks := knownTo_size (rows := rowOf K M O S) hls M
  have hfit : ∀ i, i < M → sumB (knownTo l (rowOf K M O S) z M) (rowOf K M O S i) z = zeroB z := fun i hi => known_fits K M O S l z hls hl i hi
  rw [hl] at hlk
  have hsz2 := hb2'.size
  have hown4 := owns_base (base' := w.heap.size) hown3 (fun k e => by have := (hown3.lt k e).1; omega)
  clear d0 d1 d2 d3 e0 e1 e2 e3 hb2 hb3 hown2 hown3 hbA hsp hb2' c0 c1 c2 c3
  rename_i hheld
  clear hheld
  generalize knownTo l (rowOf K M O S) z M = kn at *
  obtain ⟨hsh, h0s⟩ := shaped_of hlk (by omega) hks (by omega)
  obtain ⟨g, cap, rfl, hg, hgl⟩ := hown4.form (by omega)
  have hcp := owns_cap hown4
  unfold maxLen at hcp
  have Hlk := hide hlk
  have Hks := hide hks
  have Hfit := hide hfit
  have Hsh := hide hsh
  have H0s := hide h0s
  clear hl hls hlk hks hfit hsh h0s
  obtain ⟨c0, c1, c2, c3⟩ := spec_cells hs3
  go_wp2_with fail
  refine (fits_ok K M O S _ kn _ hK hM hO hS Hsh.out (owns_texts hown4 Hlk.out.symm)).mono ?_
  rintro e w4 ⟨⟨b, rfl, hy, _⟩, hb4⟩
  obtain rfl := hy (by rw [H0s.out]; exact Hfit.out)
  have hs4 := block_on hs3 hb4
  have hown5 := owns_below hown4 hb4
  have hbw4 := hbw3.trans (hb4.mono hbw3.size)
  clear hy hown4 hs3 hbw3 hb4 c0 c1 c2 c3
  obtain ⟨c0, c1, c2, c3⟩ := spec_cells hs4
  go_wp2_with fail
  refine (pick_any d _ _ g1 g2 (by omega)).mono ?_
  rintro e w5 ⟨rfl, rfl⟩
  have hm0 : 0 ≤ rawOf d % ((K : Int) + (M : Int)) := Int.emod_nonneg _ (by omega)
  have hm1 : rawOf d % ((K : Int) + (M : Int)) < (K : Int) + (M : Int) := Int.emod_lt_of_pos _ (by omega)
  obtain ⟨i, hi⟩ := Int.eq_ofNat_of_zero_le hm0
  rw [hi] at hm1
  rw [hi]
  have hiK : i < K + M := by omega
  have hcell := hown5.cellAt i (by omega)
  rw [textV_get kn i (by rw [Hlk.out]; exact hiK)] at hcell
  have hps : (kn.getD i ByteArray.empty).size = z := Hks.out _ (by rw [List.getD_eq_getElem?_getD, List.getElem?_eq_getElem (by rw [Hlk.out]; exact hiK)]; exact List.getElem_mem _)
  have hgne : w1.heap.size ≠ g := by
    intro e
    obtain ⟨cur, hcur⟩ := owns_block hown5 (k := g) rfl
    rw [← e, hs4] at hcur
    simp at hcur
  clear hm0 hi
  generalize hp : kn.getD i ByteArray.empty = p at *
  have Hp := hide hp
  have Hps := hide hps
  clear hp hps
  go_wp2_with fail
  refine (flipped_any p d _ g1 g2 (by rw [Hps.out]; omega) (by rw [Hps.out]; omega)).mono ?_
  rintro e w6 ⟨q, rfl, hqs, hqne, hb6⟩
  have hown6 := owns_below hown5 hb6
  have hs6 := block_on hs4 hb6
  have hbw6 := hbw4.trans (hb6.mono hbw4.size)
  have hcell6 := hown6.cellAt i (by omega)
  rw [textV_get kn i (by rw [Hlk.out]; exact hiK)] at hcell6
  have hfrz6 := hown6.frozenAt i
  have hst := (hown6.stored i (.string q)).1
  have hset : (textV kn).set i (.string q) = textV (kn.set i q) := by unfold textV; rw [List.map_set]
  rw [hset] at hst
  have hs7 : (w6.setCell ⟨g, i, none⟩ (.string q)).heap[w1.heap.size]? = some (specB K M O S) := by rw [Below.heap_setCell _ _ _ _ (by exact hgne)]; exact hs6
  have hbw7 := hbw6.setCell (p := ⟨g, i, none⟩) hg (.string q)
  have hlk2 : (kn.set i q).length = K + M := by rw [List.length_set]; exact Hlk.out
  have hks2 : ∀ x ∈ kn.set i q, x.size = z := fun x hx => by
    rcases List.mem_or_eq_of_mem_set hx with h | h
    · exact Hks.out x h
    · rw [h, hqs]; exact Hps.out
  obtain ⟨hsh2, h0s2⟩ := shaped_of hlk2 (by omega) hks2 (by omega)
  obtain ⟨r, hr, hrm⟩ := in_row K M O S i hiK hO.1 hO.2
  have hno : ¬ Fit K M O S (kn.set i q) z := fun h => changed_misfits Hks.out (by rw [Hlk.out]; exact hiK) (rowOf_nodup K M O S r) hrm (by rw [hqs]; exact Hps.out) (by rw [Hp.out]; exact hqne) (Hfit.out r hr) (h r hr)
  have Hno := hide hno
  have H0s2 := hide h0s2
  have Hsh2 := hide hsh2
  have Hlk2 := hide hlk2
  clear hno h0s2 hsh2 hlk2 hks2 hset hs6 hown6 hbw6 hqs hqne hb6 hown5 hs4 hbw4 c0 c1 c2 c3 hcell hrm
  obtain ⟨c0, c1, c2, c3⟩ := spec_cells hs7
  go_wp2_with fail
  refine (fits_ok K M O S _ (kn.set i q) _ hK hM hO hS Hsh2.out (owns_texts hst Hlk2.out.symm)).mono ?_
  rintro e w8 ⟨⟨b, rfl, _, hn⟩, hb8⟩
  obtain rfl := hn (by rw [H0s2.out]; exact Hno.out)
  have hbw8 := hbw7.trans (hb8.mono hbw7.size)
  clear hst hs7 hbw7 hb8 c0 c1 c2 c3 hcell6 hfrz6
  go_wp2
  go_ret
  exact ⟨rfl, hbw8⟩

end Go.Proofs.Ytnjaofkieajnlaa
