/- The program's sum of the pieces of a row. -/
import Derived.Test.YtnjaofkieajnlaaGreatPlus
namespace Go.Proofs.YtnjaofkieajnlaaGreat
open Go.RowKit

/-- A byte of a sum that is being made: piece p is added as far as k. -/
def halfByte (t p : ByteArray) (k i : Nat) : UInt8 := if i < k then byteAt t i ^^^ byteAt p i else byteAt t i

theorem halfByte_zero (t p : ByteArray) (i : Nat) : halfByte t p 0 i = byteAt t i := by simp [halfByte]
theorem halfByte_here (t p : ByteArray) (k : Nat) : halfByte t p k k = byteAt t k := by simp [halfByte]
theorem halfByte_all (t p : ByteArray) (h : t.size = p.size) (i : Nat) (hi : i < t.size) : halfByte t p t.size i = byteAt (xorB t p) i := by
  rw [byteAt_xorB h i hi]; simp [halfByte, hi]

/-- A row of bytes, by the index. -/
abbrev byteRow (w : World) (g n : Nat) (f : Nat → UInt8) : Prop := w.rowIs g 5 n (fun i => .int .u8 ((f i).toNat : Int))

theorem byteRow_step {w : World} {g n : Nat} {t p : ByteArray} {k : Nat} (h : byteRow w g n (halfByte t p k)) :
    byteRow (w.setCell ⟨g, k, none⟩ (.int .u8 (((byteAt t k).toNat ^^^ (byteAt p k).toNat : Nat) : Int))) g n (halfByte t p (k + 1)) := by
  refine (h.set k _).congr (fun i _ => ?_)
  by_cases e : i = k
  · subst e
    rw [if_pos rfl, ← toNat_xor]
    simp [halfByte]
  · rw [if_neg e]
    unfold halfByte
    by_cases l : i < k
    · rw [if_pos l, if_pos (show i < k + 1 from by omega)]
    · rw [if_neg l, if_neg (show ¬ i < k + 1 from by omega)]

theorem run_make_bytes (n : Nat) (hn : n ≤ 1000000) (w : World) : (Instr.makeSlice 106 (.int .i64 (n : Int)) (.int .i64 (n : Int))).run Tryz.prog w = .ok (.slice (some ⟨w.heap.size, 0, none⟩) n n) (w.alloc (.cells (madeCells #[.int .u8 0] n) 5)) :=
  run_make_row' (P := Tryz.prog) 106 5 (.int .u8 0) 1 Tryz.underlying106 Tryz.infoByte rfl .i64 .i64 n (by omega) (by omega) w

set_option maxRecDepth 100000 in
set_option maxHeartbeats 4000000 in
theorem sum_any (v rv : Value) (l : List ByteArray) (row : List Nat) (size base : Nat) (w : World) (hr : row.length ≤ 1000000) (hrb : ∀ j ∈ row, j ≤ 1000000) (hs : size ≤ 1000) (hsz : ∀ x ∈ l, x.size = size)
    (hown : w.ownsRow base 3 1 rv row.length (numsV row)) (ht : TextsAt w v l) :
    Calls Tryz.prog 118 #[v, rv, .int .i64 (size : Int)] w fun e w' => e = .returned (.string (sumB l row size)) ∧ Below w.heap.size w w' := by
  obtain ⟨ra, rcap, rfl, hrc⟩ := owns_view hown
  obtain ⟨ao, cap, rfl, hcap, hc⟩ := ht
  have hmk := run_make_bytes size (by omega)
  have HC := hide hc
  have HR := hide hrc
  have HS := hide hsz
  have HB := hide hrb
  clear hc hrc hsz hown hrb
  go_enter Tryz.func118, Tryz.ntmps118
  go_wp2_with fail
  clear hmk
  go_loopw [16] (fun i wr => ∃ k : Nat, k ≤ row.length ∧ i = .int .i64 k ∧ byteRow wr w.heap.size size (byteAt (sumB l (row.take k) size)) ∧ Below w.heap.size w wr) (fun i _ => row.length - (intOf i).toNat)
  case atStart =>
    refine ⟨0, Nat.zero_le _, rfl, (World.rowIs_made w (.int .u8 0) size 5).congr (fun i _ => ?_), (Below.refl _ _).alloc (Nat.le_refl _) _⟩
    show Value.int .u8 0 = .int .u8 ((byteAt (zeroB size) i).toNat : Int)
    rw [byteAt_zeroB]; rfl
  case round =>
    obtain ⟨k, hk, rfl, hrow, hbel⟩ := hrel
    by_cases hlt : k < row.length
    · obtain ⟨qr, rfl, hcr⟩ := HR.out k hlt
      have hj : row.getD k 0 = row[k] := by simp [hlt]
      have hjb : row.getD k 0 ≤ 1000000 := by rw [hj]; exact HB.out _ (List.getElem_mem hlt)
      have hts := sumB_take_succ l row size k hlt
      rw [← hj] at hts
      have hts2 := sumB_size HS.out (row.take k)
      have hcr2 := (hbel.cell (p := ⟨qr, k, none⟩) (block_lt_of_cell hcr)).trans hcr
      clear hj hcr
      generalize row.getD k 0 = j at *
      generalize sumB l (row.take k) size = t at *
      by_cases hjl : j < l.length
      · obtain ⟨q, o, rfl, hq, hpc⟩ := HC.out j hjl
        have hps : (l.getD j ByteArray.empty).size = size := HS.out _ (by rw [List.getD_eq_getElem?_getD, List.getElem?_eq_getElem hjl]; exact List.getElem_mem hjl)
        have hpc2 := (hbel.cell (p := ⟨q, o + j, none⟩) hq).trans hpc
        have hts3 : sumB l (row.take (k + 1)) size = xorB t (l.getD j ByteArray.empty) := by rw [hts]; unfold addAt; rw [if_pos hjl]
        clear hpc hts
        generalize l.getD j ByteArray.empty = p at *
        have Ht := hide hts3
        have Hts := hide hts2
        have Hps := hide hps
        clear hts3 hts2 hps
        have i1 : (0 : Int) ≤ (j : Int) := by omega
        have i2 : (j : Int) < (l.length : Int) := by omega
        have hrow0 : byteRow wr w.heap.size size (halfByte t p 0) := hrow.congr (fun i _ => by rw [halfByte_zero])
        clear hrow
        go_wp2_with fail
        clear hpc2 hcr2
        go_loopw [11] (fun i wr => ∃ n : Nat, n ≤ size ∧ i = .int .i64 n ∧ byteRow wr w.heap.size size (halfByte t p n) ∧ Below w.heap.size w wr) (fun i _ => size - (intOf i).toNat)
        case atStart => exact ⟨0, Nat.zero_le _, rfl, hrow0, hbel⟩
        case round =>
          clear hrow0 hbel
          obtain ⟨n, hn, rfl, hrow, hbel⟩ := hrel
          by_cases hns : n < size
          · have hcell := hrow.cell hns
            have hfrz := hrow.frozen n
            rw [halfByte_here] at hcell
            have hpn : n < p.size := by rw [Hps.out]; exact hns
            have g2 := byteAt_get p n hpn
            have hx := u8_xor_nat (byteAt t n).toNat (byteAt p n).toNat (byteAt t n).toNat_lt (byteAt p n).toNat_lt
            have hnext := byteRow_step hrow
            have hb2 := hbel.setCell (p := ⟨w.heap.size, n, none⟩) (Nat.le_refl _) (.int .u8 (((byteAt t n).toNat ^^^ (byteAt p n).toNat : Nat) : Int))
            have i3 : (0 : Int) ≤ (n : Int) := by omega
            have i4 : (n : Int) < (size : Int) := by omega
            have i5 : (n : Int) < (p.size : Int) := by omega
            clear hrow hbel
            go_wp2_with fail
            go_region
            all_goals
              clear hcell hfrz g2 hx
              go_wp2
              go_roundw
              case rel => exact ⟨n + 1, by omega, by go_num, hnext, hb2.drew⟩
              case measure => simp [intOf]; omega
          · have hnn : n = size := by omega
            subst hnn
            have hnext : byteRow wr w.heap.size n (byteAt (sumB l (row.take (k + 1)) n)) := by
              rw [Ht.out]
              refine hrow.congr (fun i hi => ?_)
              rw [← halfByte_all t p (by rw [Hts.out, Hps.out]) i (by rw [Hts.out]; exact hi), Hts.out]
            clear hrow
            go_wp2
            go_roundw
            case rel => exact ⟨k + 1, by omega, by go_num, hnext, hbel⟩
            case measure => simp [intOf]; omega
      · have hts3 : sumB l (row.take (k + 1)) size = t := by rw [hts]; unfold addAt; rw [if_neg hjl]
        have Ht := hide hts3
        clear hts hts3
        go_wp2
        go_roundw
        case rel => exact ⟨k + 1, by omega, by go_num, by rw [Ht.out]; exact hrow, hbel⟩
        case measure => simp [intOf]; omega
    · have hall : row.take k = row := List.take_of_length_le (by omega)
      rw [hall] at hrow
      have hsz2 := sumB_size HS.out row
      have hc : ∀ i, i < size → wr.cell? ⟨w.heap.size, 0 + i, none⟩ = some (.int .u8 ((numsB (sumB l row size)).getD i 0)) := fun i hi => by
        rw [Nat.zero_add, numsB_getD]; exact hrow.cell hi
      have hcv := run_convert_bytes_arg (P := Tryz.prog) wr 106 5 Tryz.underlying106 Tryz.underlying5 w.heap.size 0 size size (numsB (sumB l row size)) (by rw [numsB_length]; exact hsz2) hc 9 Tryz.underlying9
      rw [strOfNums_numsB] at hcv
      clear hc hrow hall hsz2
      go_wp2
      go_ret
      exact ⟨rfl, hbel⟩

end Go.Proofs.YtnjaofkieajnlaaGreat
