/- The document's own sums: noughts, plus, total. -/
import Derived.Test.YtnjaofkieajnlaaGreatSameRows
import Derived.Test.YtnjaofkieajnlaaGreatBytes
import Derived.Laws.BytesArg
import Derived.BigQuiet
import Derived.Deep.QuietTactic
namespace Go.Proofs.YtnjaofkieajnlaaGreat
open Go.RowKit

theorem Tryz.infoByte : (Tryz.prog.info? 5).map (fun i => (i.zero, i.size, i.bytes)) = some (some (.int .u8 0), 1, 1) := by kernel_rfl
theorem Tryz.infoText : (Tryz.prog.info? 9).map (fun i => (i.zero, i.size, i.bytes)) = some (some (.string ByteArray.empty), 1, 16) := by kernel_rfl

theorem strOfNums_numsB (a : ByteArray) : strOfNums (numsB a) = a := by
  cases a with
  | mk d =>
    have h : ((fun n : Int => UInt8.ofNat n.toNat) ∘ fun b : UInt8 => (b.toNat : Int)) = id := by funext b; simp
    unfold strOfNums numsB
    rw [List.map_map, h, List.map_id]

/-- Bytes as values. -/
def bytesV (a : ByteArray) : List Value := (numsB a).map (Value.int .u8)

set_option maxRecDepth 100000 in
set_option maxHeartbeats 1000000 in
theorem noughts_any (n : Nat) (w : World) (hn : n ≤ 1000000) :
    Calls Tryz.prog 54 #[.int .i64 (n : Int)] w fun e w' => e = .returned (.string (zeroB n)) ∧ w' = w := by
  go_enter Tryz.func54, Tryz.ntmps54
  go_wp2
  go_loop [3, 5] (fun t i => ∃ k : Nat, k ≤ n ∧ i = .int .i64 k ∧ t = .string (zeroB k)) (fun _ i => n - (intOf i).toNat)
  case atStart => exact ⟨0, Nat.zero_le _, rfl, rfl⟩
  case round =>
    obtain ⟨k, hk, rfl, rfl⟩ := hrel
    have hz := zeroB_succ k
    have Hz := hide hz
    have hs := zeroB_size k
    clear hz
    by_cases hlt : k < n
    · go_wp2
      go_round
      case rel => exact ⟨k + 1, by omega, by go_num, by rw [Hz.out]⟩
      case measure => simp [intOf]; omega
    · have hkn : k = n := by omega
      subst hkn
      go_wp2
      go_ret
      exact ⟨rfl, rfl⟩

theorem bytesV_getElem (a : ByteArray) (i : Nat) (h : i < a.size) : (bytesV a)[i]? = some (.int .u8 ((byteAt a i).toNat : Int)) := by
  unfold bytesV
  rw [List.getElem?_map]
  have h2 : (numsB a)[i]? = some ((numsB a).getD i 0) := by
    rw [List.getD_eq_getElem?_getD, List.getElem?_eq_getElem (by rw [numsB_length]; exact h)]; rfl
  rw [h2, numsB_getD]; rfl

/-- The bytes of the sum as far as k. -/
theorem bytesV_take_succ (a b : ByteArray) (h : a.size = b.size) (k : Nat) (hk : k < a.size) :
    (bytesV (xorB a b)).take (k + 1) = (bytesV (xorB a b)).take k ++ [.int .u8 (((byteAt a k).toNat ^^^ (byteAt b k).toNat : Nat) : Int)] := by
  have hl : k < (bytesV (xorB a b)).length := by unfold bytesV; rw [List.length_map, numsB_length, xorB_size h]; exact hk
  rw [List.take_succ_eq_append_getElem hl]
  have h1 := bytesV_getElem (xorB a b) k (by rw [xorB_size h]; exact hk)
  rw [List.getElem?_eq_getElem hl, byteAt_xorB h k hk, toNat_xor] at h1
  simp only [Option.some.injEq] at h1
  rw [h1]

theorem bytesV_length (a : ByteArray) : (bytesV a).length = a.size := by unfold bytesV; rw [List.length_map, numsB_length]

/-- The cells of an owned row of bytes. -/
theorem owns_bytes {w : World} {base : Nat} {v : Value} {a : ByteArray} (h : w.ownsRow base 5 1 v a.size (bytesV a)) (h0 : 0 < a.size) :
    ∃ g cap, v = .slice (some ⟨g, 0, none⟩) a.size cap ∧ ∀ k, k < a.size → w.cell? ⟨g, 0 + k, none⟩ = some (.int .u8 ((numsB a).getD k 0)) := by
  rcases h.2 with ⟨rfl, hn⟩ | ⟨g, cap, cur, rfl, _, hg, hc, _, _, ht⟩
  · omega
  · refine ⟨g, cap, rfl, fun k hk => ?_⟩
    rw [cell_of_row _ _ _ _ _ _ hg, Nat.zero_add]
    have h1 := bytesV_getElem a k hk
    rw [← ht, List.getElem?_take] at h1
    rw [if_pos (by omega)] at h1
    rw [numsB_getD]
    simpa using h1

set_option maxRecDepth 100000 in
set_option maxHeartbeats 2000000 in
theorem plus_any (a b : ByteArray) (w : World) (h : a.size = b.size) (h0 : 0 < a.size) (h16 : a.size ≤ 1000) :
    Calls Tryz.prog 90 #[.string a, .string b] w fun e w' => e = .returned (.string (xorB a b)) ∧ Below w.heap.size w w' := by
  obtain ⟨i0, hi, hz0, hz1, hz2⟩ := info_parts Tryz.infoByte
  go_enter Tryz.func90, Tryz.ntmps90
  go_wp2_with fail
  go_loopw [5, 9] (fun v i wr => ∃ k : Nat, k ≤ a.size ∧ i = .int .i64 k ∧ wr.ownsRow w.heap.size 5 1 v k ((bytesV (xorB a b)).take k) ∧ Below w.heap.size w wr) (fun _ i _ => a.size - (intOf i).toNat)
  case atStart => exact ⟨0, Nat.zero_le _, rfl, World.ownsRow_nil _ _ _ _, Below.refl _ _⟩
  case round =>
    obtain ⟨k, hk, rfl, hown, hbel⟩ := hrel
    by_cases hlt : k < a.size
    · have hlb : k < b.size := by omega
      have g1 := byteAt_get a k hlt
      have g2 := byteAt_get b k hlb
      have hts := bytesV_take_succ a b h k hlt
      have hx := u8_xor_nat (byteAt a k).toNat (byteAt b k).toNat (byteAt a k).toNat_lt (byteAt b k).toNat_lt
      have Ht := hide hts
      have Hh := hide h
      clear hts h
      have i1 : (0 : Int) ≤ (k : Int) := by omega
      have i2 : (k : Int) < (a.size : Int) := by omega
      have i3 : (k : Int) < (b.size : Int) := by omega
      have hsz := hbel.size
      go_wp2_with fail
      go_region_law ((refine step_append_lies _ (by rfl) (.tmp 12) (.tmp 20) 106 (by rfl) w.heap.size 5 i0 (.int .u8 0) 1 1 Tryz.underlying106 hi hz0 hz1 hz2 rfl (by decide) _ _ _ (by rfl) (World.ownsRow.drew (World.ownsRow.alloc hown _)) ⟨wr.heap.size, 0, none⟩ 1 1 [.int .u8 (((byteAt a k).toNat ^^^ (byteAt b k).toNat : Nat) : Int)] (by rfl) rfl (World.news_of_block (cs := #[_]) (heap_alloc_new wr _)) (one_oneCell rfl) (by decide) (by unfold maxLen; omega) (by omega) (by simp; omega) (wr.heap.size + 1) (by simp) ?_; intro gg cap w2 hown2 hgr hat2 hlt2))
      all_goals
        have hb2 : Below w.heap.size w w2 := ((hbel.alloc hsz _).drew).grown hgr (by simp; omega) (fun q hq => (hown.lt q hq).1)
        have hown3 : w2.ownsRow w.heap.size 5 1 (.slice (some ⟨gg, 0, none⟩) (k + 1) cap) (k + 1) ((bytesV (xorB a b)).take (k + 1)) := by rw [Ht.out]; exact hown2
        clear hown2 hgr hat2 hbel hown g1 g2
        go_wp2
        go_roundw
        case rel => exact ⟨k + 1, by omega, by go_num, hown3, hb2⟩
        case measure => simp [intOf]; omega
    · have hk2 : k = a.size := by omega
      have hxs := xorB_size h
      have hb3 : ¬ k < b.size := by omega
      have hown3 : wr.ownsRow w.heap.size 5 1 u5 (xorB a b).size (bytesV (xorB a b)) := by
        rw [hk2, List.take_of_length_le (by rw [bytesV_length]; omega)] at hown
        rw [hxs]; exact hown
      obtain ⟨g, cap, rfl, hc⟩ := owns_bytes hown3 (by omega)
      have hcv := run_convert_bytes_arg (P := Tryz.prog) wr 106 5 Tryz.underlying106 Tryz.underlying5 g 0 (xorB a b).size cap (numsB (xorB a b)) (numsB_length _) hc 9 Tryz.underlying9
      rw [strOfNums_numsB] at hcv
      clear hc hown hown3 hxs
      go_wp2
      go_ret
      exact ⟨rfl, hbel⟩

/-- A slice of texts, as it is read: its elements are l. -/
def TextsAt (w : World) (v : Value) (l : List ByteArray) : Prop :=
  ∃ ao cap, v = .slice ao l.length cap ∧ l.length ≤ cap ∧ ∀ k, k < l.length → ∃ q o, ao = some ⟨q, o, none⟩ ∧ q < w.heap.size ∧ w.cell? ⟨q, o + k, none⟩ = some (.string (l.getD k ByteArray.empty))

theorem TextsAt.on {w w1 : World} {v : Value} {l : List ByteArray} (h : TextsAt w v l) (hb : Below w.heap.size w w1) : TextsAt w1 v l := by
  obtain ⟨ao, cap, hv, hl, hc⟩ := h
  refine ⟨ao, cap, hv, hl, fun k hk => ?_⟩
  obtain ⟨q, o, ha, hq, hcell⟩ := hc k hk
  exact ⟨q, o, ha, Nat.lt_of_lt_of_le hq hb.size, by rw [hb.cell hq]; exact hcell⟩

set_option maxRecDepth 100000 in
set_option maxHeartbeats 2000000 in
theorem total_any (v rv : Value) (l : List ByteArray) (row : List Nat) (size base : Nat) (w : World) (hl0 : 0 < l.length) (hr : row.length ≤ 1000000) (hs0 : 0 < size) (hs : size ≤ 1000) (hsz : ∀ x ∈ l, x.size = size) (hrow : ∀ j ∈ row, j < l.length)
    (hown : w.ownsRow base 3 1 rv row.length (numsV row)) (ht : TextsAt w v l) :
    Calls Tryz.prog 105 #[rv, v] w fun e w' => e = .returned (.string (sumB l row size)) ∧ Below w.heap.size w w' := by
  obtain ⟨ra, rcap, rfl, hrc⟩ := owns_view hown
  obtain ⟨ao, cap, rfl, hcap, hc⟩ := ht
  obtain ⟨q, o, rfl, hq, hc0⟩ := hc 0 hl0
  have hget : ∀ k, k < l.length → (l.getD k ByteArray.empty).size = size := fun k hk => hsz _ (by rw [List.getD_eq_getElem?_getD, List.getElem?_eq_getElem hk]; exact List.getElem_mem hk)
  have h0s := hget 0 hl0
  have hcells : ∀ k, k < l.length → w.cell? ⟨q, o + k, none⟩ = some (.string (l.getD k ByteArray.empty)) := fun k hk => by
    obtain ⟨q', o', he, _, hcell⟩ := hc k hk
    simp at he
    obtain ⟨rfl, rfl⟩ := he
    exact hcell
  have HC := hide hcells
  have HR := hide hrc
  have HG := hide hget
  have HS := hide hsz
  generalize hp0 : l.getD 0 ByteArray.empty = p0 at *
  have Hp0 := hide hp0
  clear hc hcells hrc hget hsz hown hp0
  simp only [Nat.add_zero] at hc0
  go_enter Tryz.func105, Tryz.ntmps105
  go_wp2_with fail
  refine (noughts_any size _ (by omega)).mono ?_
  rintro e w1 ⟨rfl, rfl⟩
  clear hc0 h0s
  go_wp2_with fail
  go_loopw [5, 15] (fun t i wr => ∃ k : Nat, k ≤ row.length ∧ i = .int .i64 k ∧ t = .string (sumB l (row.take k) size) ∧ Below w1.heap.size w1 wr) (fun _ i _ => row.length - (intOf i).toNat)
  case atStart => exact ⟨0, Nat.zero_le _, rfl, rfl, Below.refl _ _⟩
  case round =>
    obtain ⟨k, hk, rfl, rfl, hbel⟩ := hrel
    by_cases hlt : k < row.length
    · obtain ⟨qr, rfl, hcr⟩ := HR.out k hlt
      have hj : row.getD k 0 = row[k] := by simp [hlt]
      have hjl : row.getD k 0 < l.length := by rw [hj]; exact hrow _ (List.getElem_mem hlt)
      have hts : sumB l (row.take (k + 1)) size = xorB (sumB l (row.take k) size) (l.getD (row.getD k 0) ByteArray.empty) := by
        rw [sumB_take_succ l row size k hlt, ← hj]; unfold addAt; rw [if_pos hjl]
      have hps := HG.out _ hjl
      have hpc := HC.out _ hjl
      have hts2 := sumB_size HS.out (row.take k)
      have hcr2 := (hbel.cell (p := ⟨qr, k, none⟩) (block_lt_of_cell hcr)).trans hcr
      have hpc2 := (hbel.cell (p := ⟨q, o + row.getD k 0, none⟩) hq).trans hpc
      have Ht := hide hts
      clear hts hj hcr hpc
      generalize row.getD k 0 = j at *
      generalize l.getD j ByteArray.empty = p at *
      generalize sumB l (row.take k) size = t at *
      have Hps := hide hps
      have Hts := hide hts2
      clear hps hts2
      have i1 : (0 : Int) ≤ (j : Int) := by omega
      have i2 : (j : Int) < (l.length : Int) := by omega
      go_wp2_with fail
      refine (plus_any t p _ (by rw [Hts.out, Hps.out]) (by rw [Hts.out]; exact hs0) (by rw [Hts.out]; exact hs)).mono ?_
      rintro e w2 ⟨rfl, hb2⟩
      have hb3 := hbel.trans (hb2.mono hbel.size)
      clear hcr2 hpc2 hb2 hbel
      rw [← Ht.out]
      go_wp2
      go_roundw
      case rel => exact ⟨k + 1, by omega, by go_num, rfl, hb3⟩
      case measure => simp [intOf]; omega
    · have hall : row.take k = row := List.take_of_length_le (by omega)
      rw [hall]
      go_wp2
      go_ret
      exact ⟨rfl, hbel⟩

end Go.Proofs.YtnjaofkieajnlaaGreat
