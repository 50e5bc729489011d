/- Sums: in each row the pieces of a word sum to noughts; the rows have the spare pieces, and each piece of data as often as they should. -/
import Derived.Test.YtnjaofkieajnlaaKPlus
import Derived.Test.YtnjaofkieajnlaaCntMaths
namespace Go.Proofs.Ytnjaofkieajnlaa
open Go.RowKit

/-- What Sums stands on: the specification's block h, the word's block gw, the rows' block g. -/
structure SumBase (W : World) (h gw capw g K M O S z : Nat) (kn : List ByteArray) (rv : Nat → Value) : Prop where
  spec : W.heap[h]? = some (specB K M O S)
  word : W.ownsRow 0 9 1 (.slice (some ⟨gw, 0, none⟩) (K + M) capw) (K + M) (textV kn)
  rows : RowsAt W (g + 1) g M rv (rowOf K M O S)

theorem SumBase.on {W wr : World} {h gw capw g K M O S z gc : Nat} {kn : List ByteArray} {rv : Nat → Value} (a : SumBase W h gw capw g K M O S z kn rv) (hc : Chg (fun k => k = gc) W wr) (hgc : W.heap.size ≤ gc) : SumBase wr h gw capw g K M O S z kn rv := by
  have hb : Below W.heap.size W wr := hc.below (fun k hk e => by omega)
  exact ⟨block_on a.spec hb, owns_below a.word hb, a.rows.below hb⟩

theorem SumBase.below {W wr : World} {h gw capw g K M O S z : Nat} {kn : List ByteArray} {rv : Nat → Value} (a : SumBase W h gw capw g K M O S z kn rv) (hb : Below W.heap.size W wr) : SumBase wr h gw capw g K M O S z kn rv :=
  ⟨block_on a.spec hb, owns_below a.word hb, a.rows.below hb⟩

/-- A text of noughts out of a new row of bytes. -/
theorem conv_zero (W : World) (g z : Nat) (hg : W.heap[g]? = some (.cells (madeCells #[.int .u8 0] z) 5 (0, 0))) : (convert 53 9 (.slice (some ⟨g, 0, none⟩) z z)).run Try.prog W = .ok (.string (zeroB z)) W := by
  have h := run_convert_bytes_arg (P := Try.prog) W 53 5 Try.underlying53 Try.underlying5 g 0 z z (numsB (zeroB z)) (by rw [numsB_length, zeroB_size]) (fun i hi => by
    rw [Nat.zero_add, cell_of_row _ _ _ _ _ _ hg, numsB_getD, byteAt_zeroB]
    simp [madeCells, hi, Nat.mod_one]) 9 Try.underlying9
  rwa [strOfNums_numsB] at h

/-- The counts, in their block. -/
abbrev CntAt (w : World) (gc K : Nat) (f : Nat → Nat) : Prop := w.rowIs gc 3 K (fun j => .int .i64 ((f j : Nat) : Int))

set_option maxRecDepth 100000 in
set_option maxHeartbeats 4000000 in
theorem sums_any (c : Int) (text : ByteArray) (w : World) (h1 : -9223372036854775808 ≤ c) (h2 : c ≤ 9223372036854775807) (ht : text.size ≤ 9223372036854775807) :
    Calls Try.prog 10 #[.int .i64 c, .string text] w fun e w' => e = .returned (.bool true) ∧ Below w.heap.size w w' := by
  go_enter Try.func10, Try.ntmps10
  go_wp2_with fail
  refine (spec_any c _ h1 h2).mono ?_
  rintro e w1 ⟨K, M, O, S, z, rfl, hs, hb1⟩
  have Hs := hide hs
  have hz := hs.hz
  have hK := hs.hK
  have hM := hs.hM
  have hO := hs.hO
  have hS := hs.hS
  clear hs
  go_wp2_with fail
  have hsp : (w1.alloc (specB K M O S)).heap[w1.heap.size]? = some (specB K M O S) := heap_alloc_new w1 _
  have hbA : Below w.heap.size w (w1.alloc (specB K M O S)) := hb1.alloc hb1.size _
  obtain ⟨c0, c1, c2, c3⟩ := spec_cells hsp
  go_region_held3 (fun w' => w'.cell? ⟨w1.heap.size, 0, none⟩ = some (.int .i64 (K : Int)) ∧ w'.cell? ⟨w1.heap.size, 1, none⟩ = some (.int .i64 (M : Int)) ∧ w'.cell? ⟨w1.heap.size, 2, none⟩ = some (.int .i64 (O : Int)) ∧ w'.cell? ⟨w1.heap.size, 3, none⟩ = some (.int .i64 (S : Int)))
    (first | (exact ⟨d0, d1, d2, d3⟩) | (exact ⟨e0, e1, e2, e3⟩) | go_keep)
    (first
      | (go_at_call 29; refine (pieces_any K z text _ (by omega) (by omega) ht).mono ?_; rintro e w2 ⟨v2, l, rfl, hl, hls, hown2, hb2⟩; obtain ⟨d0, d1, d2, d3⟩ := spec_cells (block_on (w := (w1.alloc (specB K M O S)).drew) hsp hb2))
      | (go_at_call 28; refine (word_ok K M O S z _ l _ Hs.out hl hls (owns_texts hown2 hl.symm)).mono ?_; rintro e w3 ⟨v3, rfl, hown3, hb3⟩; obtain ⟨e0, e1, e2, e3⟩ := spec_cells (block_on (block_on (w := (w1.alloc (specB K M O S)).drew) hsp hb2) hb3)))
  have hs3 : w3.heap[w1.heap.size]? = some (specB K M O S) := block_on (block_on (w := (w1.alloc (specB K M O S)).drew) hsp hb2) hb3
  have hb2' : Below w.heap.size w w2 := hbA.drew.trans (hb2.mono (by have := hb1.size; simp; omega))
  have hbw3 : Below w.heap.size w w3 := hb2'.trans (hb3.mono hb2'.size)
  have hlk := knownTo_length l (rowOf K M O S) z M
  have hks := knownTo_size (rows := rowOf K M O S) hls M
  have hfit : ∀ i, i < M → sumB (knownTo l (rowOf K M O S) z M) (rowOf K M O S i) z = zeroB z := fun i hi => known_fits K M O S l z hls hl i hi
  rw [hl] at hlk
  have hown4 := owns_base (base' := 0) hown3 (fun k _ => Nat.zero_le _)
  clear d0 d1 d2 d3 e0 e1 e2 e3 hb2 hb3 hown2 hown3 hbA hsp hb2' c0 c1 c2 c3
  rename_i hheld
  clear hheld
  generalize knownTo l (rowOf K M O S) z M = kn at *
  obtain ⟨gw, capw, rfl, _, _⟩ := hown4.form (by omega)
  have Hlk := hide hlk
  have Hks := hide hks
  have Hfit := hide hfit
  clear hl hls hlk hks hfit
  obtain ⟨c0, c1, c2, c3⟩ := spec_cells hs3
  go_wp2_with fail
  refine (rows_ok K M O S _ hK hM hO hS).mono ?_
  rintro e w4 ⟨g, rv, rfl, hr4, _, hb4⟩
  have hbase : SumBase w4 w1.heap.size gw capw g K M O S z kn rv := ⟨block_on hs3 hb4, owns_below hown4 hb4, hr4⟩
  have hbw4 := hbw3.trans (hb4.mono hbw3.size)
  clear hown4 hs3 hbw3 hb4 c0 c1 c2 c3 hr4
  obtain ⟨c0, c1, c2, c3⟩ := spec_cells hbase.spec
  have hmk := run_make_row' (P := Try.prog) 52 3 (.int .i64 0) 8 Try.underlying52 Try.infoInt rfl .i64 .i64 K (by omega) (by omega)
  have hnM : ((M : Int) != (M : Int)) = false := by simp
  go_wp2_with fail
  have hcnt0 : CntAt (w4.alloc (.cells (madeCells #[.int .i64 0] K) 3)) w4.heap.size K (fun j => cntTo (rowOf K M O S) j 0) := (World.rowIs_made w4 (.int .i64 0) K 3).congr (fun i _ => rfl)
  clear c0 c1 c2 c3 hmk
  go_loopw [57] (fun t wr => ∃ i : Nat, i ≤ M ∧ t = .int .i64 i ∧ CntAt wr w4.heap.size K (fun j => cntTo (rowOf K M O S) j i) ∧ Below w4.heap.size w4 wr) (fun t _ => M - (intOf t).toNat)
  case atStart => exact ⟨0, Nat.zero_le _, rfl, hcnt0, (Below.refl _ _).alloc (Nat.le_refl _) _⟩
  case round =>
    clear hcnt0
    obtain ⟨i, hiM, rfl, hcnt, hbel⟩ := hrel
    by_cases hlt : i < M
    · have hb0 := hbase.below hbel
      have hrc := hb0.rows.cell hlt
      obtain ⟨ra, rcap, hrv, hrcells⟩ := owns_view (hb0.rows.own i hlt)
      rw [hrv] at hrc
      have hrl := rowOf_len K M O S i
      have hmkb := run_make_bytes z (by omega)
      have hcv := conv_zero (wr.alloc (.cells (madeCells #[.int .u8 0] z) 5)) wr.heap.size z (heap_alloc_new wr _)
      have hrc2 : (wr.alloc (.cells (madeCells #[.int .u8 0] z) 5)).cell? ⟨g, i, none⟩ = some (.slice ra (rowOf K M O S i).length rcap) := by
        rw [World.cell?_alloc_lt _ _ _ (by exact hb0.rows.row.lt)]; exact hrc
      have hcnt1 : CntAt (wr.alloc (.cells (madeCells #[.int .u8 0] z) 5)) w4.heap.size K (cntIn (rowOf K M O S) i 0) := (hcnt.alloc _).congr (fun j _ => by rw [cntIn_zero])
      have hbel1 := hbel.alloc hbel.size (.cells (madeCells #[.int .u8 0] z) 5)
      clear hrc hb0
      go_wp2_with fail
      have Hrv := hide hrv
      clear hcv hrc2 hmkb hcnt hbel hrv hrcells
      go_loopw [13, 14, 15, 68] (fun t last ends kk wr => ∃ k : Nat, k ≤ (rowOf K M O S i).length ∧ kk = .int .i64 k ∧ t = .string (sumB kn ((rowOf K M O S i).take k) z) ∧ last = .int .i64 (lastOf (rowOf K M O S i) k) ∧ ends = .int .i64 ((endsOf K (rowOf K M O S i) k : Nat) : Int) ∧
        CntAt wr w4.heap.size K (cntIn (rowOf K M O S) i k) ∧ Below w4.heap.size w4 wr) (fun _ _ _ kk _ => (rowOf K M O S i).length - (intOf kk).toNat)
      case atStart => exact ⟨0, Nat.zero_le _, rfl, rfl, rfl, by rw [endsOf_zero]; rfl, hcnt1, hbel1⟩
      case round =>
        clear hcnt1 hbel1
        obtain ⟨k, hk, rfl, rfl, rfl, rfl, hcnt, hbel⟩ := hrel
        have hb0 := hbase.below hbel
        obtain ⟨c0, c1, c2, c3⟩ := spec_cells hb0.spec
        by_cases hkl : k < (rowOf K M O S i).length
        · obtain ⟨ao, cp, hrv2, hvc⟩ := owns_view (hb0.rows.own i hlt)
          obtain ⟨q, hao, hqc⟩ := hvc k hkl
          have hra : ra = some ⟨q, 0, none⟩ := by have := Hrv.out.symm.trans hrv2; simp at this; rw [this.1, hao]
          subst hra
          have hjg : (rowOf K M O S i).getD k 0 = (rowOf K M O S i)[k] := by rw [List.getD_eq_getElem?_getD, List.getElem?_eq_getElem hkl]; rfl
          have hjm : (rowOf K M O S i).getD k 0 ≤ K + i := by rw [hjg]; exact rowOf_lt K M O S i _ (List.getElem_mem hkl)
          have hlast := lastOf_lt (rowOf_rises K M O S i) k hkl
          have hlastb : -1 ≤ lastOf (rowOf K M O S i) k := by cases k <;> simp only [lastOf] <;> omega
          have hends := endsOf_step K (rowOf K M O S i) k hkl
          have hendl := endsOf_le K (rowOf K M O S i) k
          have hcs := fun j => cntIn_step (rowOf K M O S) i k hkl (rowOf_nodup K M O S i) j
          rw [← hjg] at hcs
          have hts := sumB_take_succ kn (rowOf K M O S i) z k hkl
          rw [← hjg] at hts
          have hts2 := sumB_size Hks.out ((rowOf K M O S i).take k)
          have hls : lastOf (rowOf K M O S i) (k + 1) = (((rowOf K M O S i).getD k 0 : Nat) : Int) := rfl
          have hcle := cntIn_le (rowOf K M O S) i k ((rowOf K M O S i).getD k 0)
          have Hends := hide hends
          have Hcs := hide hcs
          have Hts := hide hts
          have Hls := hide hls
          clear hrv2 hvc hao hjg hends hcs hts hls
          generalize (rowOf K M O S i).getD k 0 = j at *
          generalize sumB kn ((rowOf K M O S i).take k) z = t at *
          generalize lastOf (rowOf K M O S i) k = la at *
          generalize endsOf K (rowOf K M O S i) k = en at *
          have hwc := hb0.word.cellAt j (by omega)
          rw [textV_get kn j (by rw [Hlk.out]; omega)] at hwc
          have hps : (kn.getD j ByteArray.empty).size = z := Hks.out _ (by rw [List.getD_eq_getElem?_getD, List.getElem?_eq_getElem (by rw [Hlk.out]; omega)]; exact List.getElem_mem _)
          have hadd : addAt kn t j = xorB t (kn.getD j ByteArray.empty) := by unfold addAt; rw [if_pos (by rw [Hlk.out]; omega)]
          have Hadd := hide hadd
          generalize kn.getD j ByteArray.empty = p at *
          have Hps := hide hps
          have Hts2 := hide hts2
          clear hps hts2 hadd
          have i1 : (0 : Int) ≤ (j : Int) := by omega
          have i2 : (j : Int) < (K : Int) + (M : Int) := by omega
          have t1 : decide ((j : Int) ≤ la) = false := by simp; omega
          have t2 : decide ((K : Int) + (M : Int) ≤ (j : Int)) = false := by simp; omega
          go_wp2_with fail
          refine (kplus_any t p _ (by rw [Hts2.out, Hps.out]) (by rw [Hts2.out]; omega) (by rw [Hts2.out]; omega)).mono ?_
          rintro e w5 ⟨rfl, hb5⟩
          have hcnt5 : CntAt w5 w4.heap.size K (cntIn (rowOf K M O S) i k) := hcnt.of_block (hb5.block _ hcnt.lt)
          have hbel5 := hbel.trans (hb5.mono hbel.size)
          have hsp5 := block_on hb0.spec hb5
          clear c0 c1 c2 c3 hqc hwc hb5 hb0 hcnt hbel t1 t2
          obtain ⟨c0, c1, c2, c3⟩ := spec_cells hsp5
          rw [← Hadd.out, ← Hts.out]
          by_cases hjK : j < K
          · have hcc := hcnt5.cell hjK
            have hcf := hcnt5.frozen j
            have hnext : CntAt (w5.setCell ⟨w4.heap.size, j, none⟩ (.int .i64 (((cntIn (rowOf K M O S) i k j : Nat) : Int) + 1))) w4.heap.size K (cntIn (rowOf K M O S) i (k + 1)) := by
              refine (hcnt5.set j _).congr (fun q _ => ?_)
              rw [← Hcs.out q]
              by_cases e : q = j
              · subst e
                rw [if_pos rfl, if_pos rfl]
                congr 1
              · rw [if_neg e, if_neg e]
            have hb6 := hbel5.setCell (p := ⟨w4.heap.size, j, none⟩) (Nat.le_refl _) (.int .i64 (((cntIn (rowOf K M O S) i k j : Nat) : Int) + 1))
            have hen : endsOf K (rowOf K M O S i) (k + 1) = en := by rw [Hends.out, if_neg (by omega)]; rfl
            have Hen := hide hen
            clear hen hcnt5 hbel5 hsp5
            generalize cntIn (rowOf K M O S) i k j = cn at *
            go_wp2
            go_roundw
            case rel => exact ⟨k + 1, by omega, by go_num, rfl, by rw [Hls.out], by rw [Hen.out], hnext, hb6⟩
            case measure => simp [intOf]; omega
          · have hnext : CntAt w5 w4.heap.size K (cntIn (rowOf K M O S) i (k + 1)) := hcnt5.congr (fun q hq => by rw [← Hcs.out q, if_neg (by omega)])
            have hen : endsOf K (rowOf K M O S i) (k + 1) = en + 1 := by rw [Hends.out, if_pos (by omega)]
            have Hen := hide hen
            clear hen hcnt5 hsp5
            go_wp2
            go_roundw
            case rel => exact ⟨k + 1, by omega, by go_num, rfl, by rw [Hls.out], by rw [Hen.out]; go_num, hnext, hbel5⟩
            case measure => simp [intOf]; omega
        · have hkl2 : k = (rowOf K M O S i).length := by omega
          subst hkl2
          have htt : sumB kn ((rowOf K M O S i).take (rowOf K M O S i).length) z = zeroB z := by rw [List.take_length]; exact Hfit.out i hlt
          rw [htt, rowOf_last, rowOf_ends]
          have hnext : CntAt wr w4.heap.size K (fun j => cntTo (rowOf K M O S) j (i + 1)) := hcnt.congr (fun j _ => by rw [cntIn_all _ _ _ _ (Nat.le_refl _)])
          have hrc := hb0.rows.cell hlt
          rw [Hrv.out] at hrc
          clear hcnt htt
          have hmkb := run_make_bytes z (by omega)
          have hcv := conv_zero ((wr.alloc (.cells (madeCells #[.int .u8 0] z) 5)).drew) wr.heap.size z (heap_alloc_new wr _)
          have hbA := (hbel.alloc hbel.size (.cells (madeCells #[.int .u8 0] z) 5)).drew
          have hnA : CntAt (wr.alloc (.cells (madeCells #[.int .u8 0] z) 5)).drew w4.heap.size K (fun j => cntTo (rowOf K M O S) j (i + 1)) := (hnext.alloc _).drew
          have hwi : IntKind.i64.wrap ((K : Int) + (i : Int)) = (K : Int) + (i : Int) := IntWalk.i64_in _ (by omega)
          have hcK : ((K + i : Nat) : Int) = (K : Int) + (i : Int) := by omega
          rw [hcK]
          clear hcK hnext hbel
          have hgl := hb0.rows.row.lt
          have hhl : w1.heap.size < wr.heap.size := (Array.getElem?_eq_some_iff.1 hb0.spec).1
          by_cases hi0 : 0 < i
          · rw [if_pos hi0]
            obtain ⟨hl2, hpv⟩ := rowOf_prev K M O S i hi0
            obtain ⟨ao, cp, hrv2, hvc⟩ := owns_view (hb0.rows.own i hlt)
            obtain ⟨q, hao, hqc⟩ := hvc ((rowOf K M O S i).length - 2) (by omega)
            have hra : ra = some ⟨q, 0, none⟩ := by have := Hrv.out.symm.trans hrv2; simp at this; rw [this.1, hao]
            subst hra
            have hql := block_lt_of_cell hqc
            rw [hpv, show ((K + i - 1 : Nat) : Int) = (K : Int) + (i : Int) - 1 from by omega] at hqc
            have b2 : ((i : Int) == 0) = false := by simp; omega
            have b3 : decide ((0 : Int) < (i : Int)) = true := by simp; exact hi0
            have i1 : (0 : Int) ≤ (i : Int) := by omega
            have i2 : (i : Int) < (M : Int) := by omega
            have i3 : (0 : Int) ≤ ((rowOf K M O S i).length : Int) - 2 := by omega
            have i4 : ((rowOf K M O S i).length : Int) - 2 < ((rowOf K M O S i).length : Int) := by omega
            clear hvc hrv2 hao hpv hb0
            generalize (rowOf K M O S i).length = len at *
            go_wp2_with fail
            go_region
            all_goals
              clear hcv hmkb hqc hrc c0 c1 c2 c3
              go_wp2
              go_roundw
              case rel => exact ⟨i + 1, by omega, by go_num, hnA, hbA⟩
              case measure => simp [intOf]; omega
          · rw [if_neg hi0]
            have hi00 : i = 0 := by omega
            subst hi00
            clear hb0
            go_wp2_with fail
            go_region
            all_goals
              clear hcv hmkb hrc c0 c1 c2 c3
              go_wp2
              go_roundw
              case rel => exact ⟨0 + 1, by omega, by go_num, hnA, hbA⟩
              case measure => simp [intOf]; omega
    · have hiM2 : i = M := by omega
      subst hiM2
      have hcn : CntAt wr w4.heap.size K (fun _ => O) := hcnt.congr (fun j hj => by show Value.int .i64 ((cntTo (rowOf K i O S) j i : Nat) : Int) = .int .i64 ((O : Nat) : Int); rw [cnt_ones K i O S j hj hO.2])
      have hb0 := hbase.below hbel
      have hsp0 := hb0.spec
      clear hcnt hb0
      go_wp2_with fail
      go_loopw [150] (fun t wr => ∃ j : Nat, j ≤ K ∧ t = .int .i64 j ∧ CntAt wr w4.heap.size K (fun _ => O) ∧ wr.heap[w1.heap.size]? = some (specB K i O S) ∧ Below w4.heap.size w4 wr) (fun t _ => K - (intOf t).toNat)
      case atStart => exact ⟨0, Nat.zero_le _, rfl, hcn, hsp0, hbel⟩
      case round =>
        clear hcn hbel hsp0
        obtain ⟨j, hjK, rfl, hcn, hsp, hbel⟩ := hrel
        by_cases hjl : j < K
        · obtain ⟨c0, c1, c2, c3⟩ := spec_cells hsp
          have hcc := hcn.cell hjl
          have i1 : (0 : Int) ≤ (j : Int) := by omega
          have i2 : (j : Int) < (K : Int) := by omega
          go_wp2_with fail
          go_quiet (fail)
          have hcn2 : CntAt (wr.drewN nq) w4.heap.size K (fun _ => O) := hcn
          have hsp2 : (wr.drewN nq).heap[w1.heap.size]? = some (specB K i O S) := hsp
          have hbel2 : Below w4.heap.size w4 (wr.drewN nq) := ⟨hbel.os, hbel.tape, hbel.output, hbel.size, hbel.block⟩
          clear hcn hsp hbel c0 c1 c2 c3 hcc
          go_wp2
          go_roundw
          case rel => exact ⟨j + 1, by omega, by go_num, hcn2, hsp2, hbel2⟩
          case measure => simp [intOf]; omega
        · have hbf := hbw4.trans (hbel.mono hbw4.size)
          go_wp2
          go_ret
          exact ⟨rfl, hbf⟩

end Go.Proofs.Ytnjaofkieajnlaa
