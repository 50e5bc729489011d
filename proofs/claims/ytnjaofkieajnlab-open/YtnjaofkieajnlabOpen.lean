/- Open: where nothing follows any piece may be put in, and is got; where one follows another is refused, and leaves no trace. -/
import Derived.Test.YtnjaofkieajnlabFollows
namespace Go.Proofs.Ytnjaofkieajnlab
open Go.RowKit

theorem chg_box {w w' : World} {S : Nat → Prop} {p K n z : Nat} {of : Nat → Nat} {kn : Kn} (h : BoxAt w p K n z of kn) (hc : Chg S w w') (hn : ¬ S p) : BoxAt w' p K n z of kn := h.block (hc.block p h.lt hn)

set_option maxRecDepth 100000 in
set_option maxHeartbeats 4000000 in
theorem open_any (c d bit : Int) (text : ByteArray) (av : Value) (at_ : List Int) (w : World) (h1 : -9223372036854775808 ≤ c) (h2 : c ≤ 9223372036854775807) (g1 : -9223372036854775808 ≤ d) (g2 : d ≤ 9223372036854775807) (f1 : -9223372036854775808 ≤ bit) (f2 : bit ≤ 9223372036854775807) (ht : text.size ≤ 9223372036854775807) (ha : IntsAt w av at_) (hal : at_.length ≤ 9223372036854775807) :
    Calls Try.prog 4 #[.int .i64 c, .string text, av, .int .i64 d, .int .i64 bit] w fun e w' => e = .returned (.bool true) ∧ Below w.heap.size w w' := by
  go_enter Try.func4, Try.ntmps4
  go_wp2_with fail
  refine (spec_any c _ h1 h2).mono ?_
  rintro e w1 ⟨K, M, O, S, z, rfl, hs, hb1⟩
  have Hs := hide hs
  have hz := hs.hz
  have hK := hs.hK
  have hM := hs.hM
  clear hs
  go_wp2_with fail
  have hsp : (w1.alloc (specB K M O S)).heap[w1.heap.size]? = some (specB K M O S) := heap_alloc_new w1 _
  have hbA : Below w.heap.size w (w1.alloc (specB K M O S)) := hb1.alloc hb1.size _
  obtain ⟨c0, c1, c2, c3⟩ := spec_cells hsp
  go_region_held3 (fun w' => w'.cell? ⟨w1.heap.size, 0, none⟩ = some (.int .i64 (K : Int)) ∧ w'.cell? ⟨w1.heap.size, 1, none⟩ = some (.int .i64 (M : Int)) ∧ w'.cell? ⟨w1.heap.size, 2, none⟩ = some (.int .i64 (O : Int)) ∧ w'.cell? ⟨w1.heap.size, 3, none⟩ = some (.int .i64 (S : Int)))
    (first | (exact ⟨d0, d1, d2, d3⟩) | (exact ⟨e0, e1, e2, e3⟩) | go_keep)
    (first
      | (go_at_call 10; refine (pieces_any K z text _ (by omega) (by omega) ht).mono ?_; rintro e w2 ⟨v2, l, rfl, hl, hls, hown2, hb2⟩; obtain ⟨d0, d1, d2, d3⟩ := spec_cells (block_on (w := (w1.alloc (specB K M O S)).drew) hsp hb2))
      | (go_at_call 9; refine (word_ok K M O S z _ l _ Hs.out hl hls (owns_texts hown2 hl.symm)).mono ?_; rintro e w3 ⟨v3, rfl, hown3, hb3⟩; obtain ⟨e0, e1, e2, e3⟩ := spec_cells (block_on (block_on (w := (w1.alloc (specB K M O S)).drew) hsp hb2) hb3)))
  have hs3 : w3.heap[w1.heap.size]? = some (specB K M O S) := block_on (block_on (w := (w1.alloc (specB K M O S)).drew) hsp hb2) hb3
  have hb2' : Below w.heap.size w w2 := hbA.drew.trans (hb2.mono (by have := hb1.size; simp; omega))
  have hbw3 : Below w.heap.size w w3 := hb2'.trans (hb3.mono hb2'.size)
  have hwd := word_is K M O S z l hl hls
  have htx := owns_texts hown3 hwd.len.symm
  have ha3 := ha.on (Nat.le_refl _) hbw3
  clear d0 d1 d2 d3 e0 e1 e2 e3 hb2 hb3 hown2 hown3 hbA hsp hb2' c0 c1 c2 c3 ha hl hls hb1
  rename_i hheld
  clear hheld
  generalize knownTo l (rowOf K M O S) z M = P at *
  obtain ⟨c0, c1, c2, c3⟩ := spec_cells hs3
  have Hwd := hide hwd
  have Htx := hide htx
  have Ha3 := hide ha3
  have hPl := hwd.len
  clear hwd htx ha3
  go_wp2_with fail
  refine (filled_ok K M O S z v3 av P at_ _ Hs.out Hwd.out Htx.out Ha3.out hal).mono ?_
  rintro e w4 ⟨p, rfl, hp, hbox, hb4⟩
  have hs4 := block_on hs3 hb4
  clear c0 c1 c2 c3
  obtain ⟨c0, c1, c2, c3⟩ := spec_cells hs4
  go_wp2_with fail
  refine (filled_ok K M O S z v3 av P at_ _ Hs.out Hwd.out (Htx.out.on hb4) (Ha3.out.on (Nat.le_refl _) hb4) hal).mono ?_
  rintro e w5 ⟨p2, rfl, hp2, hbox2, hb5⟩
  have hbox1 := hbox.on (Nat.le_refl _) hb5
  have hpp : p < p2 := Nat.lt_of_lt_of_le hbox.lt hp2
  have hb35 : Below w3.heap.size w3 w5 := hb4.trans (hb5.mono hb4.size)
  have hok := fillTo_ok Hwd.out hK at_ at_.length
  obtain ⟨to_, tcap, rfl, htc, hT⟩ := Htx.out
  have HT := hide hT
  have hp23 : w3.heap.size ≤ p2 := by omega
  clear hT c0 c1 c2 c3 hs3 hs4 Htx Ha3 hbox hb4 hb5
  generalize fillTo K M O S P at_ at_.length = kn at *
  have hpl := placeOf_lt (K + M) d (by omega)
  have hpk := pick_place d (K + M) (by omega)
  rw [Int.natCast_add] at hpk
  generalize placeOf (K + M) d = i at *
  have Hpk := hide hpk
  clear hpk
  go_wp2_with fail
  refine (pick_any d _ _ g1 g2 (by omega)).mono ?_
  rintro e w6 ⟨rfl, hw6⟩
  obtain rfl := hw6.symm
  rw [Hpk.out]
  obtain ⟨q, o, rfl, hq, hc⟩ := HT.out i (by omega)
  have hc5 := (hb35.cell (p := ⟨q, o + i, none⟩) hq).trans hc
  have hps := Hwd.out.at_size hpl
  have hgv := fun h0 => hok.get Hwd.out hpl h0
  have hoth := fun q hq hne h0 => hok.other Hwd.out (q := q) hpl hq hne h0
  have hpg := fun q hq h0 => put_get hok.ok hK.2 (ofs_lt K M O S i) (q := q) hq h0
  have hlz := fun (q : ByteArray) (hq : q.size = z) => left_zero hok.ok (ofs K M O S i) (zeroB_size z) hq
  have i3 : (0 : Int) ≤ (i : Int) := by omega
  have i4 : (i : Int) < (K : Int) + (M : Int) := by omega
  generalize hpc : P.getD i ByteArray.empty = pc at *
  have Hgv := hide hgv
  have Hoth := hide hoth
  have Hpg := hide hpg
  have Hlz := hide hlz
  have Hc := hide hc
  clear hc hgv hoth hpg hlz hpc
  go_wp2_with fail
  refine (get_ok p K (K + M) z i (ofs K M O S) kn _ hK.2 hok.ok (ofs_lt K M O S) (by omega) (by omega) hpl hbox1).mono ?_
  rintro e w7 ⟨rfl, hb7⟩
  have hb37 := hb35.trans (hb7.mono hb35.size)
  have hc7 := (hb7.cell (p := ⟨q, o + i, none⟩) (Nat.lt_of_lt_of_le hq hb35.size)).trans hc5
  have hbx1 := hbox1.on (Nat.le_refl _) hb7
  have hbx2 := hbox2.on (Nat.le_refl _) hb7
  clear hbox1 hbox2 hb7 hb35 hc5
  by_cases h0 : (left kn (ofs K M O S i) (zeroB z)).1 = 0
  · rw [if_pos h0, Hgv.out h0]
    go_wp2_with fail
    refine (flipped_any pc bit _ f1 f2 (by omega) (by omega)).mono ?_
    rintro e w8 ⟨ot, rfl, hots, hotn, hb8⟩
    have hn0 : (left kn (ofs K M O S i) ot).1 = 0 := (Hlz.out ot (by omega)).1 h0
    have hpe : putE (left kn (ofs K M O S i) ot) z = 4 := by
      unfold putE
      rw [if_pos ⟨hn0, Hoth.out ot (by omega) hotn hn0⟩]
    have hpk : putK kn (ofs K M O S i) ot = kn := by unfold putK; rw [if_pos hn0]
    have hbx3 := hbx2.on (Nat.le_refl _) hb8
    have hbx13 := hbx1.on (Nat.le_refl _) hb8
    have hb38 := hb37.trans (hb8.mono hb37.size)
    have hput := put_ok p2 K (K + M) z i ot (ofs K M O S) kn
    rw [hpe, hpk] at hput
    have hget := get_ok p2 K (K + M) z i (ofs K M O S) kn
    rw [if_pos h0, Hgv.out h0] at hget
    clear hbx1 hbx2 hb8 hb37 hc7 hpe hn0 h0 hotn hpk
    go_wp2_with fail
    refine (hput _ hK.2 hok.ok (ofs_lt K M O S) (by omega) (by omega) hpl (by omega) hbx3).mono ?_
    rintro e w9 ⟨rfl, hbx4, hcg⟩
    have hbx14 := chg_box hbx13 hcg (by omega)
    have hb39 := below_chg hb38 hcg (fun k hk => by rw [hk]; exact hp23)
    clear hbx3 hbx13 hcg hb38 hput
    go_wp2_with fail
    refine (hget _ hK.2 hok.ok (ofs_lt K M O S) (by omega) (by omega) hpl hbx4).mono ?_
    rintro e w10 ⟨rfl, hb10⟩
    have hb310 := hb39.trans (hb10.mono hb39.size)
    have hbx5 := hbx4.on (Nat.le_refl _) hb10
    have hbx15 := hbx14.on (Nat.le_refl _) hb10
    have hc10 := (hb310.cell (p := ⟨q, o + i, none⟩) hq).trans Hc.out
    clear hbx4 hbx14 hb10 hb39 hget
    go_wp2_with fail
    clear hc10
    go_loopw [134] (fun kv wr => ∃ k : Nat, k ≤ K + M ∧ kv = .int .i64 (k : Int) ∧ BoxAt wr p K (K + M) z (ofs K M O S) kn ∧ BoxAt wr p2 K (K + M) z (ofs K M O S) kn ∧ Below w3.heap.size w3 wr) (fun kv _ => K + M - (intOf kv).toNat)
    case atStart => exact ⟨0, Nat.zero_le _, rfl, hbx15, hbx5, hb310⟩
    case round =>
      clear hbx15 hbx5 hb310
      obtain ⟨k, hk, rfl, hb1, hb2, hbr⟩ := hrel
      by_cases hkl : k < K + M
      · have hga := get_ok p K (K + M) z k (ofs K M O S) kn
        have hgb := get_ok p2 K (K + M) z k (ofs K M O S) kn
        have k1 : (0 : Int) ≤ (k : Int) := by omega
        generalize left kn (ofs K M O S k) (zeroB z) = L at *
        by_cases hL : L.1 = 0
        · rw [if_pos hL] at hga hgb
          clear hL
          go_wp2_with fail
          refine (hga _ hK.2 hok.ok (ofs_lt K M O S) (by omega) (by omega) hkl hb1).mono ?_
          rintro e w11 ⟨rfl, hb11⟩
          have hr1 := hbr.trans (hb11.mono hbr.size)
          have hx1 := hb1.on (Nat.le_refl _) hb11
          have hx2 := hb2.on (Nat.le_refl _) hb11
          clear hbr hb1 hb2 hb11 hga
          go_wp2_with fail
          refine (hgb _ hK.2 hok.ok (ofs_lt K M O S) (by omega) (by omega) hkl hx2).mono ?_
          rintro e w12 ⟨rfl, hb12⟩
          have hr2 := hr1.trans (hb12.mono hr1.size)
          have hy1 := hx1.on (Nat.le_refl _) hb12
          have hy2 := hx2.on (Nat.le_refl _) hb12
          clear hr1 hx1 hx2 hb12 hgb
          go_wp2_with fail
          go_roundw
          case rel => exact ⟨k + 1, by omega, by go_num, hy1, hy2, hr2⟩
          case measure => simp [intOf]; omega
        · rw [if_neg hL] at hga hgb
          clear hL
          go_wp2_with fail
          refine (hga _ hK.2 hok.ok (ofs_lt K M O S) (by omega) (by omega) hkl hb1).mono ?_
          rintro e w11 ⟨rfl, hb11⟩
          have hr1 := hbr.trans (hb11.mono hbr.size)
          have hx1 := hb1.on (Nat.le_refl _) hb11
          have hx2 := hb2.on (Nat.le_refl _) hb11
          clear hbr hb1 hb2 hb11 hga
          go_wp2_with fail
          refine (hgb _ hK.2 hok.ok (ofs_lt K M O S) (by omega) (by omega) hkl hx2).mono ?_
          rintro e w12 ⟨rfl, hb12⟩
          have hr2 := hr1.trans (hb12.mono hr1.size)
          have hy1 := hx1.on (Nat.le_refl _) hb12
          have hy2 := hx2.on (Nat.le_refl _) hb12
          clear hr1 hx1 hx2 hb12 hgb
          go_wp2_with fail
          go_roundw
          case rel => exact ⟨k + 1, by omega, by go_num, hy1, hy2, hr2⟩
          case measure => simp [intOf]; omega
      · go_wp2_with fail
        refine (need_any p K (K + M) z (ofs K M O S) kn _ hK.2 hb1).mono ?_
        rintro e w11 ⟨rfl, hw11⟩
        obtain rfl := hw11.symm
        go_wp2_with fail
        refine (need_any p2 K (K + M) z (ofs K M O S) kn _ hK.2 hb2).mono ?_
        rintro e w12 ⟨rfl, hw12⟩
        obtain rfl := hw12.symm
        go_wp2_with fail
        go_ret
        exact ⟨by first | rfl | simp, hbw3.trans (hbr.mono hbw3.size)⟩
  · rw [if_neg h0]
    go_wp2_with fail
    refine (flipped_any pc bit _ f1 f2 (by omega) (by omega)).mono ?_
    rintro e w8 ⟨ot, rfl, hots, hotn, hb8⟩
    have hn0 : (left kn (ofs K M O S i) ot).1 ≠ 0 := fun e => h0 ((Hlz.out ot (by omega)).2 e)
    have hpe : putE (left kn (ofs K M O S i) ot) z = 0 := by
      unfold putE
      rw [if_neg (fun h => hn0 h.1)]
    have hbx3 := hbx2.on (Nat.le_refl _) hb8
    have hb38 := hb37.trans (hb8.mono hb37.size)
    obtain ⟨m1, m2⟩ := Hpg.out ot (by omega) hn0
    have hput := put_ok p2 K (K + M) z i ot (ofs K M O S) kn
    rw [hpe] at hput
    have hpok := putK_ok (x := ofs K M O S i) hok.ok hK.2 (show ot.size = z by omega) (ofs_lt K M O S i)
    have hget := get_ok p2 K (K + M) z i (ofs K M O S) (putK kn (ofs K M O S i) ot)
    rw [if_pos m1, m2] at hget
    generalize putK kn (ofs K M O S i) ot = kn2 at *
    clear hbx1 hbx2 hb8 hb37 hc7 hpe hn0 m1 m2 h0 hotn
    go_wp2_with fail
    refine (hput _ hK.2 hok.ok (ofs_lt K M O S) (by omega) (by omega) hpl (by omega) hbx3).mono ?_
    rintro e w9 ⟨rfl, hbx4, hcg⟩
    have hb39 := below_chg hb38 hcg (fun k hk => by rw [hk]; exact hp23)
    clear hbx3 hcg hb38 hput
    go_wp2_with fail
    refine (hget _ hK.2 hpok (ofs_lt K M O S) (by omega) (by omega) hpl hbx4).mono ?_
    rintro e w10 ⟨rfl, hb10⟩
    have hb310 := hb39.trans (hb10.mono hb39.size)
    clear hbx4 hb10 hb39 hget
    go_wp2_with fail
    go_ret
    exact ⟨rfl, hbw3.trans (hb310.mono hbw3.size)⟩

end Go.Proofs.Ytnjaofkieajnlab
