/- Texts of the proof, part 7. -/
import Derived.BigQuiet
import Derived.Deep.QuietTactic
import Derived.Laws.BytesArg
import Derived.Laws.CopyOwn
import Derived.Test.YtnjaofkieajnlaaGreatTakenG0
import Derived.Test.YtnjaofkieajnlaaGreatTakenG5

/- sameRows says yes to two tables of the same rows. -/
namespace Go.Proofs.YtnjaofkieajnlaaGreat
open Go.RowKit

/-- What a slice of numbers that is owned looks like. -/
theorem owns_view {w : World} {base : Nat} {v : Value} {l : List Nat} (h : w.ownsRow base 3 1 v l.length (numsV l)) :
    ∃ ao cap, v = .slice ao l.length cap ∧ ∀ k, k < l.length → ∃ q, ao = some ⟨q, 0, none⟩ ∧ w.cell? ⟨q, k, none⟩ = some (.int .i64 (l.getD k 0 : Int)) := by
  rcases owns_cells h with ⟨rfl, rfl⟩ | ⟨g, cap, rfl, _, hc⟩
  · exact ⟨none, 0, rfl, fun k hk => by simp at hk⟩
  · exact ⟨_, cap, rfl, fun k hk => ⟨g, rfl, hc k hk⟩⟩

set_option maxRecDepth 100000 in
set_option maxHeartbeats 2000000 in
theorem sameRows_yes (g1 g2 b1 b2 M : Nat) (rv1 rv2 : Nat → Value) (L : Nat → List Nat) (w : World) (hM : M ≤ 20) (hL : ∀ i, i < M → (L i).length ≤ 1000) (h1 : RowsAt w b1 g1 M rv1 L) (h2 : RowsAt w b2 g2 M rv2 L) :
    Calls Tryz.prog 19 #[.slice (some ⟨g1, 0, none⟩) M M, .slice (some ⟨g2, 0, none⟩) M M] w fun e w' => e = .returned (.bool true) ∧ Chg (fun _ => False) w w' := by
  go_enter Tryz.func19, Tryz.ntmps19
  go_wp2_with fail
  go_loopw [14] (fun i wr => ∃ k : Nat, k ≤ M ∧ i = .int .i64 k ∧ Chg (fun _ => False) w wr) (fun i _ => M - (intOf i).toNat)
  case atStart => exact ⟨0, Nat.zero_le _, rfl, Chg.refl _ _⟩
  case round =>
    obtain ⟨i, hi, rfl, hcg⟩ := hrel
    by_cases hiM : i < M
    · have r1 := h1.chg hcg (fun x => x) (fun _ _ _ x => x)
      have r2 := h2.chg hcg (fun x => x) (fun _ _ _ x => x)
      have c1 := r1.cell hiM
      have c2 := r2.cell hiM
      have o1 := r1.own i hiM
      have o2 := r2.own i hiM
      have hLi := hL i hiM
      have j1 : (0 : Int) ≤ (i : Int) := by omega
      have j2 : (i : Int) < (M : Int) := by omega
      obtain ⟨a1, p1, e1, v1⟩ := owns_view o1
      obtain ⟨a2, p2, e2, v2⟩ := owns_view o2
      rw [e1] at c1
      rw [e2] at c2
      clear r1 r2 o1 o2 e1 e2
      go_wp2_with fail
      go_quiet (fail)
      go_wp2_with fail
      have hcq := hcg.drewN nq
      clear hcg c1 c2 v1 v2
      go_loopw [33] (fun t wr => ∃ k : Nat, k ≤ (L i).length ∧ t = .int .i64 k ∧ Chg (fun _ => False) w wr) (fun t _ => (L i).length - (intOf t).toNat)
      case atStart => exact ⟨0, Nat.zero_le _, rfl, hcq⟩
      case round =>
        clear hcq
        obtain ⟨k, hk, rfl, hcg⟩ := hrel
        by_cases hkl : k < (L i).length
        · have r1 := h1.chg hcg (fun x => x) (fun _ _ _ x => x)
          have r2 := h2.chg hcg (fun x => x) (fun _ _ _ x => x)
          have c1 := r1.cell hiM
          have c2 := r2.cell hiM
          obtain ⟨a3, p3, e1, v1⟩ := owns_view (r1.own i hiM)
          obtain ⟨a4, p4, e2, v2⟩ := owns_view (r2.own i hiM)
          rw [e1] at c1
          rw [e2] at c2
          obtain ⟨q1, rfl, d1⟩ := v1 k hkl
          obtain ⟨q2, rfl, d2⟩ := v2 k hkl
          have k1 : (0 : Int) ≤ (k : Int) := by omega
          have k2 : (k : Int) < ((L i).length : Int) := by omega
          generalize (L i).getD k 0 = x at *
          clear r1 r2 v1 v2 e1 e2
          go_wp2_with fail
          go_quiet (fail)
          have hcq := hcg.drewN nq
          clear hcg c1 c2 d1 d2
          go_wp2
          go_roundw
          case rel => exact ⟨k + 1, by omega, by go_num, hcq⟩
          case measure => simp [intOf]; omega
        · go_wp2
          go_roundw
          case rel => exact ⟨i + 1, by omega, by go_num, hcg⟩
          case measure => simp [intOf]; omega
    · go_wp2
      go_ret
      exact ⟨rfl, hcg⟩

end Go.Proofs.YtnjaofkieajnlaaGreat

/- The document's own sums: noughts, plus, total. -/
namespace Go.Proofs.YtnjaofkieajnlaaGreat
open Go.RowKit

theorem Tryz.infoByte : (Tryz.prog.info? 5).map (fun i => (i.zero, i.size, i.bytes)) = some (some (.int .u8 0), 1, 1) := by kernel_rfl
theorem Tryz.infoText : (Tryz.prog.info? 9).map (fun i => (i.zero, i.size, i.bytes)) = some (some (.string ByteArray.empty), 1, 16) := by kernel_rfl

theorem strOfNums_numsB (a : ByteArray) : strOfNums (numsB a) = a := by
  cases a with
  | mk d =>
    have h : ((fun n : Int => UInt8.ofNat n.toNat) ∘ fun b : UInt8 => (b.toNat : Int)) = id := by funext b; simp
    unfold strOfNums numsB
    rw [List.map_map, h, List.map_id]

/-- Bytes as values. -/
def bytesV (a : ByteArray) : List Value := (numsB a).map (Value.int .u8)

set_option maxRecDepth 100000 in
set_option maxHeartbeats 1000000 in
theorem noughts_any (n : Nat) (w : World) (hn : n ≤ 1000000) :
    Calls Tryz.prog 54 #[.int .i64 (n : Int)] w fun e w' => e = .returned (.string (zeroB n)) ∧ w' = w := by
  go_enter Tryz.func54, Tryz.ntmps54
  go_wp2
  go_loop [3, 5] (fun t i => ∃ k : Nat, k ≤ n ∧ i = .int .i64 k ∧ t = .string (zeroB k)) (fun _ i => n - (intOf i).toNat)
  case atStart => exact ⟨0, Nat.zero_le _, rfl, rfl⟩
  case round =>
    obtain ⟨k, hk, rfl, rfl⟩ := hrel
    have hz := zeroB_succ k
    have Hz := hide hz
    have hs := zeroB_size k
    clear hz
    by_cases hlt : k < n
    · go_wp2
      go_round
      case rel => exact ⟨k + 1, by omega, by go_num, by rw [Hz.out]⟩
      case measure => simp [intOf]; omega
    · have hkn : k = n := by omega
      subst hkn
      go_wp2
      go_ret
      exact ⟨rfl, rfl⟩

theorem bytesV_getElem (a : ByteArray) (i : Nat) (h : i < a.size) : (bytesV a)[i]? = some (.int .u8 ((byteAt a i).toNat : Int)) := by
  unfold bytesV
  rw [List.getElem?_map]
  have h2 : (numsB a)[i]? = some ((numsB a).getD i 0) := by
    rw [List.getD_eq_getElem?_getD, List.getElem?_eq_getElem (by rw [numsB_length]; exact h)]; rfl
  rw [h2, numsB_getD]; rfl

/-- The bytes of the sum as far as k. -/
theorem bytesV_take_succ (a b : ByteArray) (h : a.size = b.size) (k : Nat) (hk : k < a.size) :
    (bytesV (xorB a b)).take (k + 1) = (bytesV (xorB a b)).take k ++ [.int .u8 (((byteAt a k).toNat ^^^ (byteAt b k).toNat : Nat) : Int)] := by
  have hl : k < (bytesV (xorB a b)).length := by unfold bytesV; rw [List.length_map, numsB_length, xorB_size h]; exact hk
  rw [List.take_succ_eq_append_getElem hl]
  have h1 := bytesV_getElem (xorB a b) k (by rw [xorB_size h]; exact hk)
  rw [List.getElem?_eq_getElem hl, byteAt_xorB h k hk, toNat_xor] at h1
  simp only [Option.some.injEq] at h1
  rw [h1]

theorem bytesV_length (a : ByteArray) : (bytesV a).length = a.size := by unfold bytesV; rw [List.length_map, numsB_length]

/-- The cells of an owned row of bytes. -/
theorem owns_bytes {w : World} {base : Nat} {v : Value} {a : ByteArray} (h : w.ownsRow base 5 1 v a.size (bytesV a)) (h0 : 0 < a.size) :
    ∃ g cap, v = .slice (some ⟨g, 0, none⟩) a.size cap ∧ ∀ k, k < a.size → w.cell? ⟨g, 0 + k, none⟩ = some (.int .u8 ((numsB a).getD k 0)) := by
  rcases h.2 with ⟨rfl, hn⟩ | ⟨g, cap, cur, rfl, _, hg, hc, _, _, ht⟩
  · omega
  · refine ⟨g, cap, rfl, fun k hk => ?_⟩
    rw [cell_of_row _ _ _ _ _ _ hg, Nat.zero_add]
    have h1 := bytesV_getElem a k hk
    rw [← ht, List.getElem?_take] at h1
    rw [if_pos (by omega)] at h1
    rw [numsB_getD]
    simpa using h1

set_option maxRecDepth 100000 in
set_option maxHeartbeats 2000000 in
theorem plus_any (a b : ByteArray) (w : World) (h : a.size = b.size) (h0 : 0 < a.size) (h16 : a.size ≤ 1000) :
    Calls Tryz.prog 90 #[.string a, .string b] w fun e w' => e = .returned (.string (xorB a b)) ∧ Below w.heap.size w w' := by
  obtain ⟨i0, hi, hz0, hz1, hz2⟩ := info_parts Tryz.infoByte
  go_enter Tryz.func90, Tryz.ntmps90
  go_wp2_with fail
  go_loopw [5, 9] (fun v i wr => ∃ k : Nat, k ≤ a.size ∧ i = .int .i64 k ∧ wr.ownsRow w.heap.size 5 1 v k ((bytesV (xorB a b)).take k) ∧ Below w.heap.size w wr) (fun _ i _ => a.size - (intOf i).toNat)
  case atStart => exact ⟨0, Nat.zero_le _, rfl, World.ownsRow_nil _ _ _ _, Below.refl _ _⟩
  case round =>
    obtain ⟨k, hk, rfl, hown, hbel⟩ := hrel
    by_cases hlt : k < a.size
    · have hlb : k < b.size := by omega
      have g1 := byteAt_get a k hlt
      have g2 := byteAt_get b k hlb
      have hts := bytesV_take_succ a b h k hlt
      have hx := u8_xor_nat (byteAt a k).toNat (byteAt b k).toNat (byteAt a k).toNat_lt (byteAt b k).toNat_lt
      have Ht := hide hts
      have Hh := hide h
      clear hts h
      have i1 : (0 : Int) ≤ (k : Int) := by omega
      have i2 : (k : Int) < (a.size : Int) := by omega
      have i3 : (k : Int) < (b.size : Int) := by omega
      have hsz := hbel.size
      go_wp2_with fail
      go_region_law ((refine step_append_lies _ (by rfl) (.tmp 12) (.tmp 20) 106 (by rfl) w.heap.size 5 i0 (.int .u8 0) 1 1 Tryz.underlying106 hi hz0 hz1 hz2 rfl (by decide) _ _ _ (by rfl) (World.ownsRow.drew (World.ownsRow.alloc hown _)) ⟨wr.heap.size, 0, none⟩ 1 1 [.int .u8 (((byteAt a k).toNat ^^^ (byteAt b k).toNat : Nat) : Int)] (by rfl) rfl (World.news_of_block (cs := #[_]) (heap_alloc_new wr _)) (one_oneCell rfl) (by decide) (by unfold maxLen; omega) (by omega) (by simp; omega) (wr.heap.size + 1) (by simp) ?_; intro gg cap w2 hown2 hgr hat2 hlt2))
      all_goals
        have hb2 : Below w.heap.size w w2 := ((hbel.alloc hsz _).drew).grown hgr (by simp; omega) (fun q hq => (hown.lt q hq).1)
        have hown3 : w2.ownsRow w.heap.size 5 1 (.slice (some ⟨gg, 0, none⟩) (k + 1) cap) (k + 1) ((bytesV (xorB a b)).take (k + 1)) := by rw [Ht.out]; exact hown2
        clear hown2 hgr hat2 hbel hown g1 g2
        go_wp2
        go_roundw
        case rel => exact ⟨k + 1, by omega, by go_num, hown3, hb2⟩
        case measure => simp [intOf]; omega
    · have hk2 : k = a.size := by omega
      have hxs := xorB_size h
      have hb3 : ¬ k < b.size := by omega
      have hown3 : wr.ownsRow w.heap.size 5 1 u5 (xorB a b).size (bytesV (xorB a b)) := by
        rw [hk2, List.take_of_length_le (by rw [bytesV_length]; omega)] at hown
        rw [hxs]; exact hown
      obtain ⟨g, cap, rfl, hc⟩ := owns_bytes hown3 (by omega)
      have hcv := run_convert_bytes_arg (P := Tryz.prog) wr 106 5 Tryz.underlying106 Tryz.underlying5 g 0 (xorB a b).size cap (numsB (xorB a b)) (numsB_length _) hc 9 Tryz.underlying9
      rw [strOfNums_numsB] at hcv
      clear hc hown hown3 hxs
      go_wp2
      go_ret
      exact ⟨rfl, hbel⟩

/-- A slice of texts, as it is read: its elements are l. -/
def TextsAt (w : World) (v : Value) (l : List ByteArray) : Prop :=
  ∃ ao cap, v = .slice ao l.length cap ∧ l.length ≤ cap ∧ ∀ k, k < l.length → ∃ q o, ao = some ⟨q, o, none⟩ ∧ q < w.heap.size ∧ w.cell? ⟨q, o + k, none⟩ = some (.string (l.getD k ByteArray.empty))

theorem TextsAt.on {w w1 : World} {v : Value} {l : List ByteArray} (h : TextsAt w v l) (hb : Below w.heap.size w w1) : TextsAt w1 v l := by
  obtain ⟨ao, cap, hv, hl, hc⟩ := h
  refine ⟨ao, cap, hv, hl, fun k hk => ?_⟩
  obtain ⟨q, o, ha, hq, hcell⟩ := hc k hk
  exact ⟨q, o, ha, Nat.lt_of_lt_of_le hq hb.size, by rw [hb.cell hq]; exact hcell⟩

set_option maxRecDepth 100000 in
set_option maxHeartbeats 2000000 in
theorem total_any (v rv : Value) (l : List ByteArray) (row : List Nat) (size base : Nat) (w : World) (hl0 : 0 < l.length) (hr : row.length ≤ 1000000) (hs0 : 0 < size) (hs : size ≤ 1000) (hsz : ∀ x ∈ l, x.size = size) (hrow : ∀ j ∈ row, j < l.length)
    (hown : w.ownsRow base 3 1 rv row.length (numsV row)) (ht : TextsAt w v l) :
    Calls Tryz.prog 105 #[rv, v] w fun e w' => e = .returned (.string (sumB l row size)) ∧ Below w.heap.size w w' := by
  obtain ⟨ra, rcap, rfl, hrc⟩ := owns_view hown
  obtain ⟨ao, cap, rfl, hcap, hc⟩ := ht
  obtain ⟨q, o, rfl, hq, hc0⟩ := hc 0 hl0
  have hget : ∀ k, k < l.length → (l.getD k ByteArray.empty).size = size := fun k hk => hsz _ (by rw [List.getD_eq_getElem?_getD, List.getElem?_eq_getElem hk]; exact List.getElem_mem hk)
  have h0s := hget 0 hl0
  have hcells : ∀ k, k < l.length → w.cell? ⟨q, o + k, none⟩ = some (.string (l.getD k ByteArray.empty)) := fun k hk => by
    obtain ⟨q', o', he, _, hcell⟩ := hc k hk
    simp at he
    obtain ⟨rfl, rfl⟩ := he
    exact hcell
  have HC := hide hcells
  have HR := hide hrc
  have HG := hide hget
  have HS := hide hsz
  generalize hp0 : l.getD 0 ByteArray.empty = p0 at *
  have Hp0 := hide hp0
  clear hc hcells hrc hget hsz hown hp0
  simp only [Nat.add_zero] at hc0
  go_enter Tryz.func105, Tryz.ntmps105
  go_wp2_with fail
  refine (noughts_any size _ (by omega)).mono ?_
  rintro e w1 ⟨rfl, rfl⟩
  clear hc0 h0s
  go_wp2_with fail
  go_loopw [5, 15] (fun t i wr => ∃ k : Nat, k ≤ row.length ∧ i = .int .i64 k ∧ t = .string (sumB l (row.take k) size) ∧ Below w1.heap.size w1 wr) (fun _ i _ => row.length - (intOf i).toNat)
  case atStart => exact ⟨0, Nat.zero_le _, rfl, rfl, Below.refl _ _⟩
  case round =>
    obtain ⟨k, hk, rfl, rfl, hbel⟩ := hrel
    by_cases hlt : k < row.length
    · obtain ⟨qr, rfl, hcr⟩ := HR.out k hlt
      have hj : row.getD k 0 = row[k] := by simp [hlt]
      have hjl : row.getD k 0 < l.length := by rw [hj]; exact hrow _ (List.getElem_mem hlt)
      have hts : sumB l (row.take (k + 1)) size = xorB (sumB l (row.take k) size) (l.getD (row.getD k 0) ByteArray.empty) := by
        rw [sumB_take_succ l row size k hlt, ← hj]; unfold addAt; rw [if_pos hjl]
      have hps := HG.out _ hjl
      have hpc := HC.out _ hjl
      have hts2 := sumB_size HS.out (row.take k)
      have hcr2 := (hbel.cell (p := ⟨qr, k, none⟩) (block_lt_of_cell hcr)).trans hcr
      have hpc2 := (hbel.cell (p := ⟨q, o + row.getD k 0, none⟩) hq).trans hpc
      have Ht := hide hts
      clear hts hj hcr hpc
      generalize row.getD k 0 = j at *
      generalize l.getD j ByteArray.empty = p at *
      generalize sumB l (row.take k) size = t at *
      have Hps := hide hps
      have Hts := hide hts2
      clear hps hts2
      have i1 : (0 : Int) ≤ (j : Int) := by omega
      have i2 : (j : Int) < (l.length : Int) := by omega
      go_wp2_with fail
      refine (plus_any t p _ (by rw [Hts.out, Hps.out]) (by rw [Hts.out]; exact hs0) (by rw [Hts.out]; exact hs)).mono ?_
      rintro e w2 ⟨rfl, hb2⟩
      have hb3 := hbel.trans (hb2.mono hbel.size)
      clear hcr2 hpc2 hb2 hbel
      rw [← Ht.out]
      go_wp2
      go_roundw
      case rel => exact ⟨k + 1, by omega, by go_num, rfl, hb3⟩
      case measure => simp [intOf]; omega
    · have hall : row.take k = row := List.take_of_length_le (by omega)
      rw [hall]
      go_wp2
      go_ret
      exact ⟨rfl, hbel⟩

end Go.Proofs.YtnjaofkieajnlaaGreat

/- The program's sum of the pieces of a row. -/
namespace Go.Proofs.YtnjaofkieajnlaaGreat
open Go.RowKit

/-- A byte of a sum that is being made: piece p is added as far as k. -/
def halfByte (t p : ByteArray) (k i : Nat) : UInt8 := if i < k then byteAt t i ^^^ byteAt p i else byteAt t i

theorem halfByte_zero (t p : ByteArray) (i : Nat) : halfByte t p 0 i = byteAt t i := by simp [halfByte]
theorem halfByte_here (t p : ByteArray) (k : Nat) : halfByte t p k k = byteAt t k := by simp [halfByte]
theorem halfByte_all (t p : ByteArray) (h : t.size = p.size) (i : Nat) (hi : i < t.size) : halfByte t p t.size i = byteAt (xorB t p) i := by
  rw [byteAt_xorB h i hi]; simp [halfByte, hi]

/-- A row of bytes, by the index. -/
abbrev byteRow (w : World) (g n : Nat) (f : Nat → UInt8) : Prop := w.rowIs g 5 n (fun i => .int .u8 ((f i).toNat : Int))

theorem byteRow_step {w : World} {g n : Nat} {t p : ByteArray} {k : Nat} (h : byteRow w g n (halfByte t p k)) :
    byteRow (w.setCell ⟨g, k, none⟩ (.int .u8 (((byteAt t k).toNat ^^^ (byteAt p k).toNat : Nat) : Int))) g n (halfByte t p (k + 1)) := by
  refine (h.set k _).congr (fun i _ => ?_)
  by_cases e : i = k
  · subst e
    rw [if_pos rfl, ← toNat_xor]
    simp [halfByte]
  · rw [if_neg e]
    unfold halfByte
    by_cases l : i < k
    · rw [if_pos l, if_pos (show i < k + 1 from by omega)]
    · rw [if_neg l, if_neg (show ¬ i < k + 1 from by omega)]

theorem run_make_bytes (n : Nat) (hn : n ≤ 1000000) (w : World) : (Instr.makeSlice 106 (.int .i64 (n : Int)) (.int .i64 (n : Int))).run Tryz.prog w = .ok (.slice (some ⟨w.heap.size, 0, none⟩) n n) (w.alloc (.cells (madeCells #[.int .u8 0] n) 5)) :=
  run_make_row' (P := Tryz.prog) 106 5 (.int .u8 0) 1 Tryz.underlying106 Tryz.infoByte rfl .i64 .i64 n (by omega) (by omega) w

set_option maxRecDepth 100000 in
set_option maxHeartbeats 4000000 in
theorem sum_any (v rv : Value) (l : List ByteArray) (row : List Nat) (size base : Nat) (w : World) (hr : row.length ≤ 1000000) (hrb : ∀ j ∈ row, j ≤ 1000000) (hs : size ≤ 1000) (hsz : ∀ x ∈ l, x.size = size)
    (hown : w.ownsRow base 3 1 rv row.length (numsV row)) (ht : TextsAt w v l) :
    Calls Tryz.prog 118 #[v, rv, .int .i64 (size : Int)] w fun e w' => e = .returned (.string (sumB l row size)) ∧ Below w.heap.size w w' := by
  obtain ⟨ra, rcap, rfl, hrc⟩ := owns_view hown
  obtain ⟨ao, cap, rfl, hcap, hc⟩ := ht
  have hmk := run_make_bytes size (by omega)
  have HC := hide hc
  have HR := hide hrc
  have HS := hide hsz
  have HB := hide hrb
  clear hc hrc hsz hown hrb
  go_enter Tryz.func118, Tryz.ntmps118
  go_wp2_with fail
  clear hmk
  go_loopw [16] (fun i wr => ∃ k : Nat, k ≤ row.length ∧ i = .int .i64 k ∧ byteRow wr w.heap.size size (byteAt (sumB l (row.take k) size)) ∧ Below w.heap.size w wr) (fun i _ => row.length - (intOf i).toNat)
  case atStart =>
    refine ⟨0, Nat.zero_le _, rfl, (World.rowIs_made w (.int .u8 0) size 5).congr (fun i _ => ?_), (Below.refl _ _).alloc (Nat.le_refl _) _⟩
    show Value.int .u8 0 = .int .u8 ((byteAt (zeroB size) i).toNat : Int)
    rw [byteAt_zeroB]; rfl
  case round =>
    obtain ⟨k, hk, rfl, hrow, hbel⟩ := hrel
    by_cases hlt : k < row.length
    · obtain ⟨qr, rfl, hcr⟩ := HR.out k hlt
      have hj : row.getD k 0 = row[k] := by simp [hlt]
      have hjb : row.getD k 0 ≤ 1000000 := by rw [hj]; exact HB.out _ (List.getElem_mem hlt)
      have hts := sumB_take_succ l row size k hlt
      rw [← hj] at hts
      have hts2 := sumB_size HS.out (row.take k)
      have hcr2 := (hbel.cell (p := ⟨qr, k, none⟩) (block_lt_of_cell hcr)).trans hcr
      clear hj hcr
      generalize row.getD k 0 = j at *
      generalize sumB l (row.take k) size = t at *
      by_cases hjl : j < l.length
      · obtain ⟨q, o, rfl, hq, hpc⟩ := HC.out j hjl
        have hps : (l.getD j ByteArray.empty).size = size := HS.out _ (by rw [List.getD_eq_getElem?_getD, List.getElem?_eq_getElem hjl]; exact List.getElem_mem hjl)
        have hpc2 := (hbel.cell (p := ⟨q, o + j, none⟩) hq).trans hpc
        have hts3 : sumB l (row.take (k + 1)) size = xorB t (l.getD j ByteArray.empty) := by rw [hts]; unfold addAt; rw [if_pos hjl]
        clear hpc hts
        generalize l.getD j ByteArray.empty = p at *
        have Ht := hide hts3
        have Hts := hide hts2
        have Hps := hide hps
        clear hts3 hts2 hps
        have i1 : (0 : Int) ≤ (j : Int) := by omega
        have i2 : (j : Int) < (l.length : Int) := by omega
        have hrow0 : byteRow wr w.heap.size size (halfByte t p 0) := hrow.congr (fun i _ => by rw [halfByte_zero])
        clear hrow
        go_wp2_with fail
        clear hpc2 hcr2
        go_loopw [11] (fun i wr => ∃ n : Nat, n ≤ size ∧ i = .int .i64 n ∧ byteRow wr w.heap.size size (halfByte t p n) ∧ Below w.heap.size w wr) (fun i _ => size - (intOf i).toNat)
        case atStart => exact ⟨0, Nat.zero_le _, rfl, hrow0, hbel⟩
        case round =>
          clear hrow0 hbel
          obtain ⟨n, hn, rfl, hrow, hbel⟩ := hrel
          by_cases hns : n < size
          · have hcell := hrow.cell hns
            have hfrz := hrow.frozen n
            rw [halfByte_here] at hcell
            have hpn : n < p.size := by rw [Hps.out]; exact hns
            have g2 := byteAt_get p n hpn
            have hx := u8_xor_nat (byteAt t n).toNat (byteAt p n).toNat (byteAt t n).toNat_lt (byteAt p n).toNat_lt
            have hnext := byteRow_step hrow
            have hb2 := hbel.setCell (p := ⟨w.heap.size, n, none⟩) (Nat.le_refl _) (.int .u8 (((byteAt t n).toNat ^^^ (byteAt p n).toNat : Nat) : Int))
            have i3 : (0 : Int) ≤ (n : Int) := by omega
            have i4 : (n : Int) < (size : Int) := by omega
            have i5 : (n : Int) < (p.size : Int) := by omega
            clear hrow hbel
            go_wp2_with fail
            go_region
            all_goals
              clear hcell hfrz g2 hx
              go_wp2
              go_roundw
              case rel => exact ⟨n + 1, by omega, by go_num, hnext, hb2.drew⟩
              case measure => simp [intOf]; omega
          · have hnn : n = size := by omega
            subst hnn
            have hnext : byteRow wr w.heap.size n (byteAt (sumB l (row.take (k + 1)) n)) := by
              rw [Ht.out]
              refine hrow.congr (fun i hi => ?_)
              rw [← halfByte_all t p (by rw [Hts.out, Hps.out]) i (by rw [Hts.out]; exact hi), Hts.out]
            clear hrow
            go_wp2
            go_roundw
            case rel => exact ⟨k + 1, by omega, by go_num, hnext, hbel⟩
            case measure => simp [intOf]; omega
      · have hts3 : sumB l (row.take (k + 1)) size = t := by rw [hts]; unfold addAt; rw [if_neg hjl]
        have Ht := hide hts3
        clear hts hts3
        go_wp2
        go_roundw
        case rel => exact ⟨k + 1, by omega, by go_num, by rw [Ht.out]; exact hrow, hbel⟩
        case measure => simp [intOf]; omega
    · have hall : row.take k = row := List.take_of_length_le (by omega)
      rw [hall] at hrow
      have hsz2 := sumB_size HS.out row
      have hc : ∀ i, i < size → wr.cell? ⟨w.heap.size, 0 + i, none⟩ = some (.int .u8 ((numsB (sumB l row size)).getD i 0)) := fun i hi => by
        rw [Nat.zero_add, numsB_getD]; exact hrow.cell hi
      have hcv := run_convert_bytes_arg (P := Tryz.prog) wr 106 5 Tryz.underlying106 Tryz.underlying5 w.heap.size 0 size size (numsB (sumB l row size)) (by rw [numsB_length]; exact hsz2) hc 9 Tryz.underlying9
      rw [strOfNums_numsB] at hcv
      clear hc hrow hall hsz2
      go_wp2
      go_ret
      exact ⟨rfl, hbel⟩

end Go.Proofs.YtnjaofkieajnlaaGreat

/- Whether pieces are of one size that may be: the program's sizeOf and the document's Shaped; and sameTexts. -/
namespace Go.Proofs.YtnjaofkieajnlaaGreat
open Go.RowKit

/-- There are n pieces, all of one size from 1 to 16. -/
def Shaped (l : List ByteArray) (n : Nat) : Prop := l.length = n ∧ ∀ k, k < l.length → (l.getD k ByteArray.empty).size = (l.getD 0 ByteArray.empty).size ∧ 1 ≤ (l.getD k ByteArray.empty).size ∧ (l.getD k ByteArray.empty).size ≤ 16

set_option maxRecDepth 100000 in
set_option maxHeartbeats 2000000 in
theorem sizeOf_any (v : Value) (l : List ByteArray) (n : Nat) (w : World) (hn : 1 ≤ n ∧ n ≤ 1000) (hl : l.length ≤ 8796093022208) (ht : TextsAt w v l) :
    Calls Tryz.prog 117 #[v, .int .i64 (n : Int)] w fun e w' => (∃ r : Nat, e = .returned (.int .i64 (r : Int)) ∧ (Shaped l n → r = (l.getD 0 ByteArray.empty).size ∧ 1 ≤ r ∧ r ≤ 16) ∧ (¬ Shaped l n → r = 0)) ∧ w' = w := by
  obtain ⟨ao, cap, rfl, hcap, hc⟩ := ht
  by_cases hln : l.length = n
  · subst hln
    have hl0 : 0 < l.length := by omega
    obtain ⟨q, o, rfl, hq, hc0⟩ := hc 0 hl0
    have hcells : ∀ k, k < l.length → w.cell? ⟨q, o + k, none⟩ = some (.string (l.getD k ByteArray.empty)) := fun k hk => by
      obtain ⟨q', o', he, _, hcell⟩ := hc k hk
      simp at he
      obtain ⟨rfl, rfl⟩ := he
      exact hcell
    have HC := hide hcells
    have hsh : Hid (Shaped l l.length ↔ ∀ k, k < l.length → (l.getD k ByteArray.empty).size = (l.getD 0 ByteArray.empty).size ∧ 1 ≤ (l.getD k ByteArray.empty).size ∧ (l.getD k ByteArray.empty).size ≤ 16) := hide ⟨fun h => h.2, fun h => ⟨rfl, h⟩⟩
    clear hc hcells
    simp only [Nat.add_zero] at hc0
    generalize hp : l.getD 0 ByteArray.empty = p at *
    have Hp := hide hp
    clear hp
    by_cases h16 : 16 < p.size
    · have hno : ¬ Shaped l l.length := fun h => by have := (hsh.out.1 h) 0 hl0; rw [Hp.out] at this; omega
      have Hno := hide hno
      clear hno
      go_enter Tryz.func117, Tryz.ntmps117
      go_wp2
      go_ret
      exact ⟨⟨0, rfl, fun h => absurd h Hno.out, fun _ => rfl⟩, rfl⟩
    · have h16' : p.size ≤ 16 := by omega
      go_enter Tryz.func117, Tryz.ntmps117
      go_wp2
      clear hc0
      go_loop [24] (fun i => ∃ k : Nat, k ≤ l.length ∧ i = .int .i64 k ∧ ∀ j, j < k → (l.getD j ByteArray.empty).size = p.size) (fun i => l.length - (intOf i).toNat)
      case atStart => exact ⟨0, Nat.zero_le _, rfl, fun j hj => by omega⟩
      case round =>
        obtain ⟨k, hk, rfl, hall⟩ := hrel
        have Hall := hide hall
        clear hall
        by_cases hlt : k < l.length
        · have hcell := HC.out k hlt
          generalize hx : l.getD k ByteArray.empty = x at *
          have Hx := hide hx
          clear hx
          by_cases he : x.size = p.size
          · have hb : ((x.size : Int) != (p.size : Int)) = false := by simp [he]
            have He := hide he
            clear he
            go_wp2
            go_round
            case rel =>
              refine ⟨k + 1, by omega, by go_num, fun j hj => ?_⟩
              by_cases e : j = k
              · subst e; rw [Hx.out]; exact He.out
              · exact Hall.out j (by omega)
            case measure => simp [intOf]; omega
          · have hb : ((x.size : Int) != (p.size : Int)) = true := by simp; omega
            have hno : ¬ Shaped l l.length := fun h => by have := (hsh.out.1 h) k hlt; rw [Hx.out] at this; omega
            have Hno := hide hno
            clear hno he
            go_wp2
            go_ret
            exact ⟨⟨0, rfl, fun h => absurd h Hno.out, fun _ => rfl⟩, rfl⟩
        · have hkl : k = l.length := by omega
          go_wp2
          go_ret
          refine ⟨⟨p.size, rfl, fun h => ?_, fun h => ?_⟩, rfl⟩
          · have := (hsh.out.1 h) 0 hl0
            rw [Hp.out] at this
            exact ⟨rfl, this.2.1, this.2.2⟩
          · by_cases h1 : 1 ≤ p.size
            · exact absurd (hsh.out.2 (fun j hj => by have := Hall.out j (by omega); omega)) h
            · omega
  · have hno : ¬ Shaped l n := fun h => hln h.1
    have hb : ((l.length : Int) != (n : Int)) = true := by simp; omega
    have Hno := hide hno
    clear hno hln hc
    go_enter Tryz.func117, Tryz.ntmps117
    go_wp2
    go_ret
    exact ⟨⟨0, rfl, fun h => absurd h Hno.out, fun _ => rfl⟩, rfl⟩

end Go.Proofs.YtnjaofkieajnlaaGreat

/- The document's Shaped; sameTexts says yes to two lists of the same texts; handed and still. -/
namespace Go.Proofs.YtnjaofkieajnlaaGreat
open Go.RowKit

theorem texts_cells {w : World} {ao : Option Addr} {l : List ByteArray} {q o : Nat} (hc : ∀ k, k < l.length → ∃ q o, ao = some ⟨q, o, none⟩ ∧ q < w.heap.size ∧ w.cell? ⟨q, o + k, none⟩ = some (.string (l.getD k ByteArray.empty))) (he : ao = some ⟨q, o, none⟩) :
    ∀ k, k < l.length → w.cell? ⟨q, o + k, none⟩ = some (.string (l.getD k ByteArray.empty)) := fun k hk => by
  obtain ⟨q', o', he', _, hcell⟩ := hc k hk
  rw [he] at he'
  simp at he'
  obtain ⟨rfl, rfl⟩ := he'
  exact hcell

/-- The answer tells whether p. -/
def Tells (p : Prop) (e : Ending) : Prop := ∃ b, e = .returned (.bool b) ∧ (p → b = true) ∧ (¬ p → b = false)

set_option maxRecDepth 100000 in
set_option maxHeartbeats 2000000 in
theorem shaped_any (v : Value) (l : List ByteArray) (n : Nat) (w : World) (hn : n ≤ 1000) (hl : l.length ≤ 8796093022208) (ht : TextsAt w v l) :
    Calls Tryz.prog 75 #[v, .int .i64 (n : Int)] w fun e w' => Tells (Shaped l n) e ∧ w' = w := by
  obtain ⟨ao, cap, rfl, hcap, hc⟩ := ht
  by_cases hln : l.length = n
  · subst hln
    have hsh : Hid (Shaped l l.length ↔ ∀ k, k < l.length → (l.getD k ByteArray.empty).size = (l.getD 0 ByteArray.empty).size ∧ 1 ≤ (l.getD k ByteArray.empty).size ∧ (l.getD k ByteArray.empty).size ≤ 16) := hide ⟨fun h => h.2, fun h => ⟨rfl, h⟩⟩
    have HC := hide hc
    clear hc
    go_enter Tryz.func75, Tryz.ntmps75
    go_wp2
    go_loop [13] (fun i => ∃ k : Nat, k ≤ l.length ∧ i = .int .i64 k ∧ ∀ j, j < k → (l.getD j ByteArray.empty).size = (l.getD 0 ByteArray.empty).size ∧ 1 ≤ (l.getD j ByteArray.empty).size ∧ (l.getD j ByteArray.empty).size ≤ 16) (fun i => l.length - (intOf i).toNat)
    case atStart => exact ⟨0, Nat.zero_le _, rfl, fun j hj => by omega⟩
    case round =>
      obtain ⟨k, hk, rfl, hall⟩ := hrel
      have Hall := hide hall
      clear hall
      by_cases hlt : k < l.length
      · obtain ⟨q, o, rfl, hq, hcell⟩ := HC.out k hlt
        have hc0 := texts_cells HC.out rfl 0 (by omega)
        simp only [Nat.add_zero] at hc0
        generalize hx : l.getD k ByteArray.empty = x at *
        generalize hp : l.getD 0 ByteArray.empty = p at *
        have Hx := hide hx
        have Hp := hide hp
        clear hx hp
        by_cases hgood : x.size = p.size ∧ 1 ≤ x.size ∧ x.size ≤ 16
        · have hb1 : ((x.size : Int) != (p.size : Int)) = false := by simp; omega
          have hb2 : decide ((x.size : Int) < 1) = false := by simp; omega
          have hb3 : decide ((16 : Int) < (x.size : Int)) = false := by simp; omega
          have Hg := hide hgood
          clear hgood
          go_wp2
          go_round
          case rel =>
            refine ⟨k + 1, by omega, by go_num, fun j hj => ?_⟩
            by_cases e : j = k
            · subst e; rw [Hx.out]; exact Hg.out
            · exact Hall.out j (by omega)
          case measure => simp [intOf]; omega
        · have hno : ¬ Shaped l l.length := fun h => by have := (hsh.out.1 h) k hlt; rw [Hx.out] at this; exact hgood this
          have Hno := hide hno
          have hor : (x.size ≠ p.size) ∨ (x.size = p.size ∧ x.size < 1) ∨ (x.size = p.size ∧ 1 ≤ x.size ∧ 16 < x.size) := by omega
          clear hno hgood
          rcases hor with h1 | ⟨h1, h2⟩ | ⟨h1, h2, h3⟩
          · have hb1 : ((x.size : Int) != (p.size : Int)) = true := by simp; omega
            clear h1
            go_wp2
            go_ret
            exact ⟨⟨false, rfl, fun h => absurd h Hno.out, fun _ => rfl⟩, rfl⟩
          · have hb1 : ((x.size : Int) != (p.size : Int)) = false := by simp; omega
            have hb2 : decide ((x.size : Int) < 1) = true := by simp; omega
            clear h1
            go_wp2
            go_ret
            exact ⟨⟨false, rfl, fun h => absurd h Hno.out, fun _ => rfl⟩, rfl⟩
          · have hb1 : ((x.size : Int) != (p.size : Int)) = false := by simp; omega
            have hb2 : decide ((x.size : Int) < 1) = false := by simp; omega
            clear h1
            go_wp2
            go_ret
            exact ⟨⟨false, rfl, fun h => absurd h Hno.out, fun _ => rfl⟩, rfl⟩
      · go_wp2
        go_ret
        exact ⟨⟨true, rfl, fun _ => rfl, fun h => absurd (hsh.out.2 (fun j hj => Hall.out j (by omega))) h⟩, rfl⟩
  · have hno : ¬ Shaped l n := fun h => hln h.1
    have hb : ((l.length : Int) != (n : Int)) = true := by simp; omega
    have Hno := hide hno
    clear hno hln hc
    go_enter Tryz.func75, Tryz.ntmps75
    go_wp2
    go_ret
    exact ⟨⟨false, rfl, fun h => absurd h Hno.out, fun _ => rfl⟩, rfl⟩

set_option maxRecDepth 100000 in
set_option maxHeartbeats 2000000 in
theorem sameTexts_yes (v1 v2 : Value) (l : List ByteArray) (w : World) (hl : l.length ≤ 8796093022208) (h1 : TextsAt w v1 l) (h2 : TextsAt w v2 l) :
    Calls Tryz.prog 18 #[v1, v2] w fun e w' => e = .returned (.bool true) ∧ Chg (fun _ => False) w w' := by
  obtain ⟨a1, p1, rfl, hp1, hc1⟩ := h1
  obtain ⟨a2, p2, rfl, hp2, hc2⟩ := h2
  have H1 := hide hc1
  have H2 := hide hc2
  clear hc1 hc2
  go_enter Tryz.func18, Tryz.ntmps18
  go_wp2
  go_loopw [13] (fun i wr => ∃ k : Nat, k ≤ l.length ∧ i = .int .i64 k ∧ Chg (fun _ => False) w wr) (fun i _ => l.length - (intOf i).toNat)
  case atStart => exact ⟨0, Nat.zero_le _, rfl, Chg.refl _ _⟩
  case round =>
    obtain ⟨k, hk, rfl, hcg⟩ := hrel
    by_cases hlt : k < l.length
    · obtain ⟨q1, o1, rfl, b1, e1⟩ := H1.out k hlt
      obtain ⟨q2, o2, rfl, b2, e2⟩ := H2.out k hlt
      have e1' := (hcg.cell (a := ⟨q1, o1 + k, none⟩) b1 (fun x => x)).trans e1
      have e2' := (hcg.cell (a := ⟨q2, o2 + k, none⟩) b2 (fun x => x)).trans e2
      clear e1 e2
      generalize l.getD k ByteArray.empty = x at *
      have i1 : (0 : Int) ≤ (k : Int) := by omega
      have i2 : (k : Int) < (l.length : Int) := by omega
      go_wp2_with fail
      go_quiet (fail)
      have hcq := hcg.drewN nq
      clear hcg e1' e2'
      go_wp2
      go_roundw
      case rel => exact ⟨k + 1, by omega, by go_num, hcq⟩
      case measure => simp [intOf]; omega
    · go_wp2
      go_ret
      exact ⟨rfl, hcg⟩

end Go.Proofs.YtnjaofkieajnlaaGreat

/- handed and still: a list that is handed over with eight marks in its spare room, and the look whether it stands as it did. -/
namespace Go.Proofs.YtnjaofkieajnlaaGreat
open Go.RowKit

/-- The mark. -/
abbrev markB : ByteArray := ⟨#[109, 97, 114, 107]⟩

/-- Text i of a list that is being handed over, k marks behind it. -/
def handedAt (l : List ByteArray) (k i : Nat) : ByteArray := if i < l.length then l.getD i ByteArray.empty else if i < l.length + k then markB else ByteArray.empty

theorem handedAt_step (l : List ByteArray) (k i : Nat) : (if i = l.length + k then markB else handedAt l k i) = handedAt l (k + 1) i := by
  unfold handedAt
  by_cases h1 : i < l.length
  · rw [if_neg (by omega), if_pos h1, if_pos h1]
  · rw [if_neg h1, if_neg h1]
    by_cases e : i = l.length + k
    · rw [if_pos e, if_pos (show i < l.length + (k + 1) from by omega)]
    · rw [if_neg e]
      by_cases h2 : i < l.length + k
      · rw [if_pos h2, if_pos (by omega)]
      · rw [if_neg h2, if_neg (by omega)]

theorem handedAt_in (l : List ByteArray) (k i : Nat) (h : i < l.length) : handedAt l k i = l.getD i ByteArray.empty := by simp [handedAt, h]
theorem handedAt_mark (l : List ByteArray) (k i : Nat) (h : i < k) : handedAt l k (l.length + i) = markB := by
  unfold handedAt
  rw [if_neg (by omega), if_pos (by omega)]

/-- A list with eight marks behind it lies in block g. -/
abbrev HandedAt (w : World) (g : Nat) (l : List ByteArray) : Prop := w.rowIs g 9 (l.length + 8) (fun i => .string (handedAt l 8 i))

theorem HandedAt.texts {w : World} {g : Nat} {l : List ByteArray} (h : HandedAt w g l) : TextsAt w (.slice (some ⟨g, 0, none⟩) l.length (l.length + 8)) l :=
  ⟨_, _, rfl, by omega, fun k hk => ⟨g, 0, rfl, h.lt, by rw [Nat.zero_add, h.cell (by omega), handedAt_in l 8 k hk]⟩⟩

theorem splice_row {w : World} {g : Nat} {l : List ByteArray} (h : w.heap[g]? = some (.cells (splice (madeCells #[Value.string ByteArray.empty] (l.length + 8)).toList 0 (l.map Value.string)).toArray 9 (0, 0))) :
    w.rowIs g 9 (l.length + 8) (fun i => .string (handedAt l 0 i)) := by
  refine ⟨_, h, ?_, fun i hi => ?_⟩
  · rw [List.size_toArray, length_splice _ _ _ (by simp [size_madeCells])]; simp [size_madeCells]
  · rw [List.getElem?_toArray]
    unfold splice handedAt
    show _ = some (Value.string (if i < l.length then l.getD i ByteArray.empty else if i < l.length + 0 then markB else ByteArray.empty))
    rw [List.take_zero, List.nil_append, List.getElem?_append]
    by_cases h1 : i < l.length
    · rw [if_pos (by simpa using h1), if_pos h1]
      simp [h1]
    · rw [if_neg (by simpa using h1), if_neg h1, if_neg (by omega)]
      rw [List.getElem?_drop, Array.getElem?_toList]
      have e : 0 + (l.map Value.string).length + (i - (l.map Value.string).length) = i := by simp; omega
      rw [e]
      simp [madeCells, hi, Nat.mod_one]

theorem copy_run (l : List ByteArray) (ao : Option Addr) (cap : Nat) (w : World) (hc : ∀ k, k < l.length → ∃ q o, ao = some ⟨q, o, none⟩ ∧ q < w.heap.size ∧ w.cell? ⟨q, o + k, none⟩ = some (.string (l.getD k ByteArray.empty))) :
    ∃ W1, (∀ ty, (Builtin.copy_ #[27, 27] ty #[.slice (some ⟨w.heap.size, 0, none⟩) (l.length + 8) (l.length + 8), .slice ao l.length cap]).run Tryz.prog (w.alloc (.cells (madeCells #[.string ByteArray.empty] (l.length + 8)) 9)) = .ok (goInt l.length) W1) ∧
      W1.rowIs w.heap.size 9 (l.length + 8) (fun i => .string (handedAt l 0 i)) ∧ Below w.heap.size w W1 := by
  have hsz1 : (Tryz.prog.info? 9).map (·.size) = some 1 := by kernel_rfl
  by_cases h0 : l.length = 0
  · have hl : l = [] := List.eq_nil_of_length_eq_zero h0
    subst hl
    refine ⟨_, fun ty => run_copy_none (P := Tryz.prog) _ 27 27 ty 9 _ ao _ _ _ _ Tryz.underlying27 hsz1 (by simp), ?_, (Below.refl _ _).alloc (Nat.le_refl _) _⟩
    refine (World.rowIs_made w (.string ByteArray.empty) ([].length + 8) 9).congr (fun i _ => ?_)
    simp [handedAt]
  · obtain ⟨q, o, rfl, hq, _⟩ := hc 0 (by omega)
    have hcells := texts_cells hc rfl
    have hrun := fun ty => run_copy_row (P := Tryz.prog) (w.alloc (.cells (madeCells #[.string ByteArray.empty] (l.length + 8)) 9)) 27 27 ty 9 w.heap.size 0 (l.length + 8) (l.length + 8) ⟨q, o, none⟩ l.length cap (madeCells #[.string ByteArray.empty] (l.length + 8)) 9 (l.map Value.string) Tryz.underlying27 hsz1 (heap_alloc_new w _) (by simp) (fun j v hj => by
      have hjl : j < l.length := by have := (List.getElem?_eq_some_iff.1 hj).1; simpa using this
      rw [Addr.add_mid, World.cell?_alloc_lt _ _ _ (by exact hq), hcells j hjl]
      rw [List.getElem?_map, List.getElem?_eq_getElem hjl] at hj
      simp at hj
      subst hj
      simp [hjl]) (by simp [size_madeCells]) (fun v hv => by
      obtain ⟨x, _, rfl⟩ := List.mem_map.1 hv
      rfl)
    simp only [List.length_map] at hrun
    refine ⟨_, hrun, ?_, below_setRow ((Below.refl _ _).alloc (Nat.le_refl _) _) (Nat.le_refl _) _⟩
    refine splice_row ?_
    rw [setRow_heap _ _ _ _ _ _ (heap_alloc_new w _)]
    simp [splice]

set_option maxRecDepth 100000 in
set_option maxHeartbeats 2000000 in
theorem handed_any (v : Value) (l : List ByteArray) (w : World) (hl : l.length ≤ 8796093022208) (ht : TextsAt w v l) :
    Calls Tryz.prog 72 #[v] w fun e w' => ∃ g, e = .returned (.slice (some ⟨g, 0, none⟩) l.length (l.length + 8)) ∧ HandedAt w' g l ∧ w.heap.size ≤ g ∧ Below w.heap.size w w' := by
  obtain ⟨ao, cap, rfl, hcap, hc⟩ := ht
  have hmk : ∀ w, (Instr.makeSlice 27 (.int .i64 ((l.length : Int) + 8)) (.int .i64 ((l.length : Int) + 8))).run Tryz.prog w = .ok (.slice (some ⟨w.heap.size, 0, none⟩) (l.length + 8) (l.length + 8)) (w.alloc (.cells (madeCells #[.string ByteArray.empty] (l.length + 8)) 9)) := fun w => by
    have h := run_make_row' (P := Tryz.prog) 27 9 (.string ByteArray.empty) 16 Tryz.underlying27 Tryz.infoText rfl .i64 .i64 (l.length + 8) (by omega) (by omega) w
    rw [show ((l.length + 8 : Nat) : Int) = (l.length : Int) + 8 from by omega] at h
    exact h
  obtain ⟨W1, hrun, hrow, hbel⟩ := copy_run l ao cap w hc
  clear hc
  have Hb := hide hbel
  have Hr := hide hrow
  clear hbel hrow
  go_enter Tryz.func72, Tryz.ntmps72
  go_wp2
  clear hrun hmk
  go_loopw [14] (fun i wr => ∃ k : Nat, k ≤ 8 ∧ i = .int .i64 k ∧ wr.rowIs w.heap.size 9 (l.length + 8) (fun i => .string (handedAt l k i)) ∧ Below w.heap.size w wr) (fun i _ => 8 - (intOf i).toNat)
  case atStart => exact ⟨0, by omega, rfl, Hr.out, Hb.out⟩
  case round =>
    clear Hr Hb
    obtain ⟨k, hk, rfl, hrow, hbel⟩ := hrel
    by_cases hlt : k < 8
    · have hcell := hrow.cell (show l.length + k < l.length + 8 from by omega)
      have hfrz := hrow.frozen (l.length + k)
      have hnext : (wr.setCell ⟨w.heap.size, l.length + k, none⟩ (.string markB)).rowIs w.heap.size 9 (l.length + 8) (fun i => .string (handedAt l (k + 1) i)) :=
        (hrow.set (l.length + k) (.string markB)).congr (fun i _ => by rw [← handedAt_step]; split <;> rfl)
      have hb2 := hbel.setCell (p := ⟨w.heap.size, l.length + k, none⟩) (Nat.le_refl _) (.string markB)
      clear hrow hbel
      go_wp2
      go_roundw
      case rel => exact ⟨k + 1, by omega, by go_num, hnext, hb2⟩
      case measure => simp [intOf]; omega
    · have hk8 : k = 8 := by omega
      subst hk8
      go_wp2
      go_ret
      exact ⟨_, rfl, hrow, Nat.le_refl _, hbel⟩

set_option maxRecDepth 100000 in
set_option maxHeartbeats 2000000 in
/-- still says yes where the list and its marks stand as they were laid. -/
theorem still_yes (v : Value) (l : List ByteArray) (g : Nat) (w : World) (hl : l.length ≤ 8796093022208) (hh : HandedAt w g l) (ht : TextsAt w v l) :
    Calls Tryz.prog 74 #[.slice (some ⟨g, 0, none⟩) l.length (l.length + 8), v] w fun e w' => e = .returned (.bool true) ∧ Chg (fun _ => False) w w' := by
  obtain ⟨ao, cap, hv, hcap, hc⟩ := ht
  have ht : TextsAt w v l := ⟨ao, cap, hv, hcap, hc⟩
  have HT := hide ht
  have HH := hide hh
  subst hv
  clear hc ht hh
  go_enter Tryz.func74, Tryz.ntmps74
  go_wp2_with fail
  refine (sameTexts_yes _ _ l _ hl HH.out.texts HT.out).mono ?_
  rintro e w1 ⟨rfl, hcg⟩
  have hh1 : HandedAt w1 g l := HH.out.of_block (hcg.block g HH.out.lt (fun x => x))
  have Hcg := hide hcg
  have Hh := hide hh1
  clear hcg hh1 HT HH
  go_wp2
  go_loop [18] (fun i => ∃ k : Nat, k ≤ 8 ∧ i = .int .i64 k) (fun i => 8 - (intOf i).toNat)
  case atStart => exact ⟨0, by omega, rfl⟩
  case round =>
    obtain ⟨k, hk, rfl⟩ := hrel
    by_cases hlt : k < 8
    · have hcell := Hh.out.cell (show l.length + k < l.length + 8 from by omega)
      rw [handedAt_mark l 8 k hlt] at hcell
      go_wp2
      go_round
      case rel => exact ⟨k + 1, by omega, by go_num⟩
      case measure => simp [intOf]; omega
    · go_wp2
      go_ret
      exact ⟨rfl, Hcg.out⟩

end Go.Proofs.YtnjaofkieajnlaaGreat
