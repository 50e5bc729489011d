/- Texts of the proof, part 7. -/
import Derived.BigQuiet
import Derived.Deep.QuietTactic
import Derived.Laws.Bits64b
import Derived.Laws.BytesArg
import Derived.Laws.CopyOwn
import Derived.Test.YtnjaofkieajnlaaKnownG0
import Derived.Test.YtnjaofkieajnlaaKnownG2
import Derived.Test.YtnjaofkieajnlaaKnownG5
import Derived.WalkKit

/- sameRows says yes to two tables of the same rows. -/
namespace Go.Proofs.Ytnjaofkieajnlaa
open Go.RowKit

/-- What a slice of numbers that is owned looks like. -/
theorem owns_view {w : World} {base : Nat} {v : Value} {l : List Nat} (h : w.ownsRow base 3 1 v l.length (numsV l)) :
    ∃ ao cap, v = .slice ao l.length cap ∧ ∀ k, k < l.length → ∃ q, ao = some ⟨q, 0, none⟩ ∧ w.cell? ⟨q, k, none⟩ = some (.int .i64 (l.getD k 0 : Int)) := by
  rcases owns_cells h with ⟨rfl, rfl⟩ | ⟨g, cap, rfl, _, hc⟩
  · exact ⟨none, 0, rfl, fun k hk => by simp at hk⟩
  · exact ⟨_, cap, rfl, fun k hk => ⟨g, rfl, hc k hk⟩⟩

set_option maxRecDepth 100000 in
set_option maxHeartbeats 2000000 in
theorem sameRows_yes (g1 g2 b1 b2 M : Nat) (rv1 rv2 : Nat → Value) (L : Nat → List Nat) (w : World) (hM : M ≤ 20) (hL : ∀ i, i < M → (L i).length ≤ 1000) (h1 : RowsAt w b1 g1 M rv1 L) (h2 : RowsAt w b2 g2 M rv2 L) :
    Calls Try.prog 33 #[.slice (some ⟨g1, 0, none⟩) M M, .slice (some ⟨g2, 0, none⟩) M M] w fun e w' => e = .returned (.bool true) ∧ Chg (fun _ => False) w w' := by
  go_enter Try.func33, Try.ntmps33
  go_wp2_with fail
  go_loopw [14] (fun i wr => ∃ k : Nat, k ≤ M ∧ i = .int .i64 k ∧ Chg (fun _ => False) w wr) (fun i _ => M - (intOf i).toNat)
  case atStart => exact ⟨0, Nat.zero_le _, rfl, Chg.refl _ _⟩
  case round =>
    obtain ⟨i, hi, rfl, hcg⟩ := hrel
    by_cases hiM : i < M
    · have r1 := h1.chg hcg (fun x => x) (fun _ _ _ x => x)
      have r2 := h2.chg hcg (fun x => x) (fun _ _ _ x => x)
      have c1 := r1.cell hiM
      have c2 := r2.cell hiM
      have o1 := r1.own i hiM
      have o2 := r2.own i hiM
      have hLi := hL i hiM
      have j1 : (0 : Int) ≤ (i : Int) := by omega
      have j2 : (i : Int) < (M : Int) := by omega
      obtain ⟨a1, p1, e1, v1⟩ := owns_view o1
      obtain ⟨a2, p2, e2, v2⟩ := owns_view o2
      rw [e1] at c1
      rw [e2] at c2
      clear r1 r2 o1 o2 e1 e2
      go_wp2_with fail
      go_quiet (fail)
      go_wp2_with fail
      have hcq := hcg.drewN nq
      clear hcg c1 c2 v1 v2
      go_loopw [33] (fun t wr => ∃ k : Nat, k ≤ (L i).length ∧ t = .int .i64 k ∧ Chg (fun _ => False) w wr) (fun t _ => (L i).length - (intOf t).toNat)
      case atStart => exact ⟨0, Nat.zero_le _, rfl, hcq⟩
      case round =>
        clear hcq
        obtain ⟨k, hk, rfl, hcg⟩ := hrel
        by_cases hkl : k < (L i).length
        · have r1 := h1.chg hcg (fun x => x) (fun _ _ _ x => x)
          have r2 := h2.chg hcg (fun x => x) (fun _ _ _ x => x)
          have c1 := r1.cell hiM
          have c2 := r2.cell hiM
          obtain ⟨a3, p3, e1, v1⟩ := owns_view (r1.own i hiM)
          obtain ⟨a4, p4, e2, v2⟩ := owns_view (r2.own i hiM)
          rw [e1] at c1
          rw [e2] at c2
          obtain ⟨q1, rfl, d1⟩ := v1 k hkl
          obtain ⟨q2, rfl, d2⟩ := v2 k hkl
          have k1 : (0 : Int) ≤ (k : Int) := by omega
          have k2 : (k : Int) < ((L i).length : Int) := by omega
          generalize (L i).getD k 0 = x at *
          clear r1 r2 v1 v2 e1 e2
          go_wp2_with fail
          go_quiet (fail)
          have hcq := hcg.drewN nq
          clear hcg c1 c2 d1 d2
          go_wp2
          go_roundw
          case rel => exact ⟨k + 1, by omega, by go_num, hcq⟩
          case measure => simp [intOf]; omega
        · go_wp2
          go_roundw
          case rel => exact ⟨i + 1, by omega, by go_num, hcg⟩
          case measure => simp [intOf]; omega
    · go_wp2
      go_ret
      exact ⟨rfl, hcg⟩

end Go.Proofs.Ytnjaofkieajnlaa

/- The document's own sums: noughts, plus, total. -/
namespace Go.Proofs.Ytnjaofkieajnlaa
open Go.RowKit

theorem Try.infoByte : (Try.prog.info? 5).map (fun i => (i.zero, i.size, i.bytes)) = some (some (.int .u8 0), 1, 1) := by kernel_rfl
theorem Try.infoText : (Try.prog.info? 9).map (fun i => (i.zero, i.size, i.bytes)) = some (some (.string ByteArray.empty), 1, 16) := by kernel_rfl

theorem strOfNums_numsB (a : ByteArray) : strOfNums (numsB a) = a := by
  cases a with
  | mk d =>
    have h : ((fun n : Int => UInt8.ofNat n.toNat) ∘ fun b : UInt8 => (b.toNat : Int)) = id := by funext b; simp
    unfold strOfNums numsB
    rw [List.map_map, h, List.map_id]

/-- Bytes as values. -/
def bytesV (a : ByteArray) : List Value := (numsB a).map (Value.int .u8)

set_option maxRecDepth 100000 in
set_option maxHeartbeats 1000000 in
theorem noughts_any (n : Nat) (w : World) (hn : n ≤ 1000000) :
    Calls Try.prog 40 #[.int .i64 (n : Int)] w fun e w' => e = .returned (.string (zeroB n)) ∧ w' = w := by
  go_enter Try.func40, Try.ntmps40
  go_wp2
  go_loop [3, 5] (fun t i => ∃ k : Nat, k ≤ n ∧ i = .int .i64 k ∧ t = .string (zeroB k)) (fun _ i => n - (intOf i).toNat)
  case atStart => exact ⟨0, Nat.zero_le _, rfl, rfl⟩
  case round =>
    obtain ⟨k, hk, rfl, rfl⟩ := hrel
    have hz := zeroB_succ k
    have Hz := hide hz
    have hs := zeroB_size k
    clear hz
    by_cases hlt : k < n
    · go_wp2
      go_round
      case rel => exact ⟨k + 1, by omega, by go_num, by rw [Hz.out]⟩
      case measure => simp [intOf]; omega
    · have hkn : k = n := by omega
      subst hkn
      go_wp2
      go_ret
      exact ⟨rfl, rfl⟩

theorem bytesV_getElem (a : ByteArray) (i : Nat) (h : i < a.size) : (bytesV a)[i]? = some (.int .u8 ((byteAt a i).toNat : Int)) := by
  unfold bytesV
  rw [List.getElem?_map]
  have h2 : (numsB a)[i]? = some ((numsB a).getD i 0) := by
    rw [List.getD_eq_getElem?_getD, List.getElem?_eq_getElem (by rw [numsB_length]; exact h)]; rfl
  rw [h2, numsB_getD]; rfl

/-- The bytes of the sum as far as k. -/
theorem bytesV_take_succ (a b : ByteArray) (h : a.size = b.size) (k : Nat) (hk : k < a.size) :
    (bytesV (xorB a b)).take (k + 1) = (bytesV (xorB a b)).take k ++ [.int .u8 (((byteAt a k).toNat ^^^ (byteAt b k).toNat : Nat) : Int)] := by
  have hl : k < (bytesV (xorB a b)).length := by unfold bytesV; rw [List.length_map, numsB_length, xorB_size h]; exact hk
  rw [List.take_succ_eq_append_getElem hl]
  have h1 := bytesV_getElem (xorB a b) k (by rw [xorB_size h]; exact hk)
  rw [List.getElem?_eq_getElem hl, byteAt_xorB h k hk, toNat_xor] at h1
  simp only [Option.some.injEq] at h1
  rw [h1]

theorem bytesV_length (a : ByteArray) : (bytesV a).length = a.size := by unfold bytesV; rw [List.length_map, numsB_length]

/-- The cells of an owned row of bytes. -/
theorem owns_bytes {w : World} {base : Nat} {v : Value} {a : ByteArray} (h : w.ownsRow base 5 1 v a.size (bytesV a)) (h0 : 0 < a.size) :
    ∃ g cap, v = .slice (some ⟨g, 0, none⟩) a.size cap ∧ ∀ k, k < a.size → w.cell? ⟨g, 0 + k, none⟩ = some (.int .u8 ((numsB a).getD k 0)) := by
  rcases h.2 with ⟨rfl, hn⟩ | ⟨g, cap, cur, rfl, _, hg, hc, _, _, ht⟩
  · omega
  · refine ⟨g, cap, rfl, fun k hk => ?_⟩
    rw [cell_of_row _ _ _ _ _ _ hg, Nat.zero_add]
    have h1 := bytesV_getElem a k hk
    rw [← ht, List.getElem?_take] at h1
    rw [if_pos (by omega)] at h1
    rw [numsB_getD]
    simpa using h1

set_option maxRecDepth 100000 in
set_option maxHeartbeats 2000000 in
theorem plus_any (a b : ByteArray) (w : World) (h : a.size = b.size) (h0 : 0 < a.size) (h16 : a.size ≤ 1000) :
    Calls Try.prog 60 #[.string a, .string b] w fun e w' => e = .returned (.string (xorB a b)) ∧ Below w.heap.size w w' := by
  obtain ⟨i0, hi, hz0, hz1, hz2⟩ := info_parts Try.infoByte
  go_enter Try.func60, Try.ntmps60
  go_wp2_with fail
  go_loopw [5, 9] (fun v i wr => ∃ k : Nat, k ≤ a.size ∧ i = .int .i64 k ∧ wr.ownsRow w.heap.size 5 1 v k ((bytesV (xorB a b)).take k) ∧ Below w.heap.size w wr) (fun _ i _ => a.size - (intOf i).toNat)
  case atStart => exact ⟨0, Nat.zero_le _, rfl, World.ownsRow_nil _ _ _ _, Below.refl _ _⟩
  case round =>
    obtain ⟨k, hk, rfl, hown, hbel⟩ := hrel
    by_cases hlt : k < a.size
    · have hlb : k < b.size := by omega
      have g1 := byteAt_get a k hlt
      have g2 := byteAt_get b k hlb
      have hts := bytesV_take_succ a b h k hlt
      have hx := u8_xor_nat (byteAt a k).toNat (byteAt b k).toNat (byteAt a k).toNat_lt (byteAt b k).toNat_lt
      have Ht := hide hts
      have Hh := hide h
      clear hts h
      have i1 : (0 : Int) ≤ (k : Int) := by omega
      have i2 : (k : Int) < (a.size : Int) := by omega
      have i3 : (k : Int) < (b.size : Int) := by omega
      have hsz := hbel.size
      go_wp2_with fail
      go_region_law ((refine step_append_lies _ (by rfl) (.tmp 12) (.tmp 20) 53 (by rfl) w.heap.size 5 i0 (.int .u8 0) 1 1 Try.underlying53 hi hz0 hz1 hz2 rfl (by decide) _ _ _ (by rfl) (World.ownsRow.drew (World.ownsRow.alloc hown _)) ⟨wr.heap.size, 0, none⟩ 1 1 [.int .u8 (((byteAt a k).toNat ^^^ (byteAt b k).toNat : Nat) : Int)] (by rfl) rfl (World.news_of_block (cs := #[_]) (heap_alloc_new wr _)) (one_oneCell rfl) (by decide) (by unfold maxLen; omega) (by omega) (by simp; omega) (wr.heap.size + 1) (by simp) ?_; intro gg cap w2 hown2 hgr hat2 hlt2))
      all_goals
        have hb2 : Below w.heap.size w w2 := ((hbel.alloc hsz _).drew).grown hgr (by simp; omega) (fun q hq => (hown.lt q hq).1)
        have hown3 : w2.ownsRow w.heap.size 5 1 (.slice (some ⟨gg, 0, none⟩) (k + 1) cap) (k + 1) ((bytesV (xorB a b)).take (k + 1)) := by rw [Ht.out]; exact hown2
        clear hown2 hgr hat2 hbel hown g1 g2
        go_wp2
        go_roundw
        case rel => exact ⟨k + 1, by omega, by go_num, hown3, hb2⟩
        case measure => simp [intOf]; omega
    · have hk2 : k = a.size := by omega
      have hxs := xorB_size h
      have hb3 : ¬ k < b.size := by omega
      have hown3 : wr.ownsRow w.heap.size 5 1 u5 (xorB a b).size (bytesV (xorB a b)) := by
        rw [hk2, List.take_of_length_le (by rw [bytesV_length]; omega)] at hown
        rw [hxs]; exact hown
      obtain ⟨g, cap, rfl, hc⟩ := owns_bytes hown3 (by omega)
      have hcv := run_convert_bytes_arg (P := Try.prog) wr 53 5 Try.underlying53 Try.underlying5 g 0 (xorB a b).size cap (numsB (xorB a b)) (numsB_length _) hc 9 Try.underlying9
      rw [strOfNums_numsB] at hcv
      clear hc hown hown3 hxs
      go_wp2
      go_ret
      exact ⟨rfl, hbel⟩

/-- A slice of texts, as it is read: its elements are l. -/
def TextsAt (w : World) (v : Value) (l : List ByteArray) : Prop :=
  ∃ ao cap, v = .slice ao l.length cap ∧ l.length ≤ cap ∧ ∀ k, k < l.length → ∃ q o, ao = some ⟨q, o, none⟩ ∧ q < w.heap.size ∧ w.cell? ⟨q, o + k, none⟩ = some (.string (l.getD k ByteArray.empty))

theorem TextsAt.on {w w1 : World} {v : Value} {l : List ByteArray} (h : TextsAt w v l) (hb : Below w.heap.size w w1) : TextsAt w1 v l := by
  obtain ⟨ao, cap, hv, hl, hc⟩ := h
  refine ⟨ao, cap, hv, hl, fun k hk => ?_⟩
  obtain ⟨q, o, ha, hq, hcell⟩ := hc k hk
  exact ⟨q, o, ha, Nat.lt_of_lt_of_le hq hb.size, by rw [hb.cell hq]; exact hcell⟩

set_option maxRecDepth 100000 in
set_option maxHeartbeats 2000000 in
theorem total_any (v rv : Value) (l : List ByteArray) (row : List Nat) (size base : Nat) (w : World) (hl0 : 0 < l.length) (hr : row.length ≤ 1000000) (hs0 : 0 < size) (hs : size ≤ 1000) (hsz : ∀ x ∈ l, x.size = size) (hrow : ∀ j ∈ row, j < l.length)
    (hown : w.ownsRow base 3 1 rv row.length (numsV row)) (ht : TextsAt w v l) :
    Calls Try.prog 39 #[rv, v] w fun e w' => e = .returned (.string (sumB l row size)) ∧ Below w.heap.size w w' := by
  obtain ⟨ra, rcap, rfl, hrc⟩ := owns_view hown
  obtain ⟨ao, cap, rfl, hcap, hc⟩ := ht
  obtain ⟨q, o, rfl, hq, hc0⟩ := hc 0 hl0
  have hget : ∀ k, k < l.length → (l.getD k ByteArray.empty).size = size := fun k hk => hsz _ (by rw [List.getD_eq_getElem?_getD, List.getElem?_eq_getElem hk]; exact List.getElem_mem hk)
  have h0s := hget 0 hl0
  have hcells : ∀ k, k < l.length → w.cell? ⟨q, o + k, none⟩ = some (.string (l.getD k ByteArray.empty)) := fun k hk => by
    obtain ⟨q', o', he, _, hcell⟩ := hc k hk
    simp at he
    obtain ⟨rfl, rfl⟩ := he
    exact hcell
  have HC := hide hcells
  have HR := hide hrc
  have HG := hide hget
  have HS := hide hsz
  generalize hp0 : l.getD 0 ByteArray.empty = p0 at *
  have Hp0 := hide hp0
  clear hc hcells hrc hget hsz hown hp0
  simp only [Nat.add_zero] at hc0
  go_enter Try.func39, Try.ntmps39
  go_wp2_with fail
  refine (noughts_any size _ (by omega)).mono ?_
  rintro e w1 ⟨rfl, rfl⟩
  clear hc0 h0s
  go_wp2_with fail
  go_loopw [5, 15] (fun t i wr => ∃ k : Nat, k ≤ row.length ∧ i = .int .i64 k ∧ t = .string (sumB l (row.take k) size) ∧ Below w1.heap.size w1 wr) (fun _ i _ => row.length - (intOf i).toNat)
  case atStart => exact ⟨0, Nat.zero_le _, rfl, rfl, Below.refl _ _⟩
  case round =>
    obtain ⟨k, hk, rfl, rfl, hbel⟩ := hrel
    by_cases hlt : k < row.length
    · obtain ⟨qr, rfl, hcr⟩ := HR.out k hlt
      have hj : row.getD k 0 = row[k] := by simp [hlt]
      have hjl : row.getD k 0 < l.length := by rw [hj]; exact hrow _ (List.getElem_mem hlt)
      have hts : sumB l (row.take (k + 1)) size = xorB (sumB l (row.take k) size) (l.getD (row.getD k 0) ByteArray.empty) := by
        rw [sumB_take_succ l row size k hlt, ← hj]; unfold addAt; rw [if_pos hjl]
      have hps := HG.out _ hjl
      have hpc := HC.out _ hjl
      have hts2 := sumB_size HS.out (row.take k)
      have hcr2 := (hbel.cell (p := ⟨qr, k, none⟩) (block_lt_of_cell hcr)).trans hcr
      have hpc2 := (hbel.cell (p := ⟨q, o + row.getD k 0, none⟩) hq).trans hpc
      have Ht := hide hts
      clear hts hj hcr hpc
      generalize row.getD k 0 = j at *
      generalize l.getD j ByteArray.empty = p at *
      generalize sumB l (row.take k) size = t at *
      have Hps := hide hps
      have Hts := hide hts2
      clear hps hts2
      have i1 : (0 : Int) ≤ (j : Int) := by omega
      have i2 : (j : Int) < (l.length : Int) := by omega
      go_wp2_with fail
      refine (plus_any t p _ (by rw [Hts.out, Hps.out]) (by rw [Hts.out]; exact hs0) (by rw [Hts.out]; exact hs)).mono ?_
      rintro e w2 ⟨rfl, hb2⟩
      have hb3 := hbel.trans (hb2.mono hbel.size)
      clear hcr2 hpc2 hb2 hbel
      rw [← Ht.out]
      go_wp2
      go_roundw
      case rel => exact ⟨k + 1, by omega, by go_num, rfl, hb3⟩
      case measure => simp [intOf]; omega
    · have hall : row.take k = row := List.take_of_length_le (by omega)
      rw [hall]
      go_wp2
      go_ret
      exact ⟨rfl, hbel⟩

end Go.Proofs.Ytnjaofkieajnlaa

/- The program's sum of the pieces of a row. -/
namespace Go.Proofs.Ytnjaofkieajnlaa
open Go.RowKit

/-- A byte of a sum that is being made: piece p is added as far as k. -/
def halfByte (t p : ByteArray) (k i : Nat) : UInt8 := if i < k then byteAt t i ^^^ byteAt p i else byteAt t i

theorem halfByte_zero (t p : ByteArray) (i : Nat) : halfByte t p 0 i = byteAt t i := by simp [halfByte]
theorem halfByte_here (t p : ByteArray) (k : Nat) : halfByte t p k k = byteAt t k := by simp [halfByte]
theorem halfByte_all (t p : ByteArray) (h : t.size = p.size) (i : Nat) (hi : i < t.size) : halfByte t p t.size i = byteAt (xorB t p) i := by
  rw [byteAt_xorB h i hi]; simp [halfByte, hi]

/-- A row of bytes, by the index. -/
abbrev byteRow (w : World) (g n : Nat) (f : Nat → UInt8) : Prop := w.rowIs g 5 n (fun i => .int .u8 ((f i).toNat : Int))

theorem byteRow_step {w : World} {g n : Nat} {t p : ByteArray} {k : Nat} (h : byteRow w g n (halfByte t p k)) :
    byteRow (w.setCell ⟨g, k, none⟩ (.int .u8 (((byteAt t k).toNat ^^^ (byteAt p k).toNat : Nat) : Int))) g n (halfByte t p (k + 1)) := by
  refine (h.set k _).congr (fun i _ => ?_)
  by_cases e : i = k
  · subst e
    rw [if_pos rfl, ← toNat_xor]
    simp [halfByte]
  · rw [if_neg e]
    unfold halfByte
    by_cases l : i < k
    · rw [if_pos l, if_pos (show i < k + 1 from by omega)]
    · rw [if_neg l, if_neg (show ¬ i < k + 1 from by omega)]

theorem run_make_bytes (n : Nat) (hn : n ≤ 1000000) (w : World) : (Instr.makeSlice 53 (.int .i64 (n : Int)) (.int .i64 (n : Int))).run Try.prog w = .ok (.slice (some ⟨w.heap.size, 0, none⟩) n n) (w.alloc (.cells (madeCells #[.int .u8 0] n) 5)) :=
  run_make_row' (P := Try.prog) 53 5 (.int .u8 0) 1 Try.underlying53 Try.infoByte rfl .i64 .i64 n (by omega) (by omega) w

set_option maxRecDepth 100000 in
set_option maxHeartbeats 4000000 in
theorem sum_any (v rv : Value) (l : List ByteArray) (row : List Nat) (size base : Nat) (w : World) (hr : row.length ≤ 1000000) (hrb : ∀ j ∈ row, j ≤ 1000000) (hs : size ≤ 1000) (hsz : ∀ x ∈ l, x.size = size)
    (hown : w.ownsRow base 3 1 rv row.length (numsV row)) (ht : TextsAt w v l) :
    Calls Try.prog 59 #[v, rv, .int .i64 (size : Int)] w fun e w' => e = .returned (.string (sumB l row size)) ∧ Below w.heap.size w w' := by
  obtain ⟨ra, rcap, rfl, hrc⟩ := owns_view hown
  obtain ⟨ao, cap, rfl, hcap, hc⟩ := ht
  have hmk := run_make_bytes size (by omega)
  have HC := hide hc
  have HR := hide hrc
  have HS := hide hsz
  have HB := hide hrb
  clear hc hrc hsz hown hrb
  go_enter Try.func59, Try.ntmps59
  go_wp2_with fail
  clear hmk
  go_loopw [16] (fun i wr => ∃ k : Nat, k ≤ row.length ∧ i = .int .i64 k ∧ byteRow wr w.heap.size size (byteAt (sumB l (row.take k) size)) ∧ Below w.heap.size w wr) (fun i _ => row.length - (intOf i).toNat)
  case atStart =>
    refine ⟨0, Nat.zero_le _, rfl, (World.rowIs_made w (.int .u8 0) size 5).congr (fun i _ => ?_), (Below.refl _ _).alloc (Nat.le_refl _) _⟩
    show Value.int .u8 0 = .int .u8 ((byteAt (zeroB size) i).toNat : Int)
    rw [byteAt_zeroB]; rfl
  case round =>
    obtain ⟨k, hk, rfl, hrow, hbel⟩ := hrel
    by_cases hlt : k < row.length
    · obtain ⟨qr, rfl, hcr⟩ := HR.out k hlt
      have hj : row.getD k 0 = row[k] := by simp [hlt]
      have hjb : row.getD k 0 ≤ 1000000 := by rw [hj]; exact HB.out _ (List.getElem_mem hlt)
      have hts := sumB_take_succ l row size k hlt
      rw [← hj] at hts
      have hts2 := sumB_size HS.out (row.take k)
      have hcr2 := (hbel.cell (p := ⟨qr, k, none⟩) (block_lt_of_cell hcr)).trans hcr
      clear hj hcr
      generalize row.getD k 0 = j at *
      generalize sumB l (row.take k) size = t at *
      by_cases hjl : j < l.length
      · obtain ⟨q, o, rfl, hq, hpc⟩ := HC.out j hjl
        have hps : (l.getD j ByteArray.empty).size = size := HS.out _ (by rw [List.getD_eq_getElem?_getD, List.getElem?_eq_getElem hjl]; exact List.getElem_mem hjl)
        have hpc2 := (hbel.cell (p := ⟨q, o + j, none⟩) hq).trans hpc
        have hts3 : sumB l (row.take (k + 1)) size = xorB t (l.getD j ByteArray.empty) := by rw [hts]; unfold addAt; rw [if_pos hjl]
        clear hpc hts
        generalize l.getD j ByteArray.empty = p at *
        have Ht := hide hts3
        have Hts := hide hts2
        have Hps := hide hps
        clear hts3 hts2 hps
        have i1 : (0 : Int) ≤ (j : Int) := by omega
        have i2 : (j : Int) < (l.length : Int) := by omega
        have hrow0 : byteRow wr w.heap.size size (halfByte t p 0) := hrow.congr (fun i _ => by rw [halfByte_zero])
        clear hrow
        go_wp2_with fail
        clear hpc2 hcr2
        go_loopw [11] (fun i wr => ∃ n : Nat, n ≤ size ∧ i = .int .i64 n ∧ byteRow wr w.heap.size size (halfByte t p n) ∧ Below w.heap.size w wr) (fun i _ => size - (intOf i).toNat)
        case atStart => exact ⟨0, Nat.zero_le _, rfl, hrow0, hbel⟩
        case round =>
          clear hrow0 hbel
          obtain ⟨n, hn, rfl, hrow, hbel⟩ := hrel
          by_cases hns : n < size
          · have hcell := hrow.cell hns
            have hfrz := hrow.frozen n
            rw [halfByte_here] at hcell
            have hpn : n < p.size := by rw [Hps.out]; exact hns
            have g2 := byteAt_get p n hpn
            have hx := u8_xor_nat (byteAt t n).toNat (byteAt p n).toNat (byteAt t n).toNat_lt (byteAt p n).toNat_lt
            have hnext := byteRow_step hrow
            have hb2 := hbel.setCell (p := ⟨w.heap.size, n, none⟩) (Nat.le_refl _) (.int .u8 (((byteAt t n).toNat ^^^ (byteAt p n).toNat : Nat) : Int))
            have i3 : (0 : Int) ≤ (n : Int) := by omega
            have i4 : (n : Int) < (size : Int) := by omega
            have i5 : (n : Int) < (p.size : Int) := by omega
            clear hrow hbel
            go_wp2_with fail
            go_region
            all_goals
              clear hcell hfrz g2 hx
              go_wp2
              go_roundw
              case rel => exact ⟨n + 1, by omega, by go_num, hnext, hb2.drew⟩
              case measure => simp [intOf]; omega
          · have hnn : n = size := by omega
            subst hnn
            have hnext : byteRow wr w.heap.size n (byteAt (sumB l (row.take (k + 1)) n)) := by
              rw [Ht.out]
              refine hrow.congr (fun i hi => ?_)
              rw [← halfByte_all t p (by rw [Hts.out, Hps.out]) i (by rw [Hts.out]; exact hi), Hts.out]
            clear hrow
            go_wp2
            go_roundw
            case rel => exact ⟨k + 1, by omega, by go_num, hnext, hbel⟩
            case measure => simp [intOf]; omega
      · have hts3 : sumB l (row.take (k + 1)) size = t := by rw [hts]; unfold addAt; rw [if_neg hjl]
        have Ht := hide hts3
        clear hts hts3
        go_wp2
        go_roundw
        case rel => exact ⟨k + 1, by omega, by go_num, by rw [Ht.out]; exact hrow, hbel⟩
        case measure => simp [intOf]; omega
    · have hall : row.take k = row := List.take_of_length_le (by omega)
      rw [hall] at hrow
      have hsz2 := sumB_size HS.out row
      have hc : ∀ i, i < size → wr.cell? ⟨w.heap.size, 0 + i, none⟩ = some (.int .u8 ((numsB (sumB l row size)).getD i 0)) := fun i hi => by
        rw [Nat.zero_add, numsB_getD]; exact hrow.cell hi
      have hcv := run_convert_bytes_arg (P := Try.prog) wr 53 5 Try.underlying53 Try.underlying5 w.heap.size 0 size size (numsB (sumB l row size)) (by rw [numsB_length]; exact hsz2) hc 9 Try.underlying9
      rw [strOfNums_numsB] at hcv
      clear hc hrow hall hsz2
      go_wp2
      go_ret
      exact ⟨rfl, hbel⟩

end Go.Proofs.Ytnjaofkieajnlaa

/- Go's own bit operations on ints that are no less than nought, as numbers. Nothing of the program. -/
namespace Go.Proofs.Ytnjaofkieajnlaa

theorem ofInt64 (a : Nat) (ha : a < 9223372036854775808) : (BitVec.ofInt 64 (a : Int)).toNat = a := by
  rw [BitVec.ofInt_natCast, BitVec.toNat_ofNat]; exact Nat.mod_eq_of_lt (by omega)

theorem wrapNat (n : Nat) (h : n < 9223372036854775808) : IntKind.i64.wrap (n : Int) = (n : Int) := IntWalk.i64_in _ (by omega)

theorem i64_and_nat (a b : Nat) (ha : a < 9223372036854775808) (hb : b < 9223372036854775808) : bits .and .i64 (a : Int) (b : Int) = ((a &&& b : Nat) : Int) := by
  have hx : a &&& b < 2 ^ 63 := Nat.and_lt_two_pow _ (by omega)
  show IntKind.i64.wrap ((BitVec.ofInt 64 (a : Int) &&& BitVec.ofInt 64 (b : Int)).toNat : Int) = _
  rw [BitVec.toNat_and, ofInt64 a ha, ofInt64 b hb]
  exact wrapNat _ (by omega)

theorem i64_or_nat (a b : Nat) (ha : a < 9223372036854775808) (hb : b < 9223372036854775808) : bits .or .i64 (a : Int) (b : Int) = ((a ||| b : Nat) : Int) := by
  have hx : a ||| b < 2 ^ 63 := Nat.or_lt_two_pow (by omega) (by omega)
  show IntKind.i64.wrap ((BitVec.ofInt 64 (a : Int) ||| BitVec.ofInt 64 (b : Int)).toNat : Int) = _
  rw [BitVec.toNat_or, ofInt64 a ha, ofInt64 b hb]
  exact wrapNat _ (by omega)

theorem i64_xor_nat (a b : Nat) (ha : a < 9223372036854775808) (hb : b < 9223372036854775808) : bits .xor .i64 (a : Int) (b : Int) = ((a ^^^ b : Nat) : Int) := by
  have hx : a ^^^ b < 2 ^ 63 := Nat.xor_lt_two_pow (by omega) (by omega)
  show IntKind.i64.wrap ((BitVec.ofInt 64 (a : Int) ^^^ BitVec.ofInt 64 (b : Int)).toNat : Int) = _
  rw [BitVec.toNat_xor, ofInt64 a ha, ofInt64 b hb]
  exact wrapNat _ (by omega)

theorem div_cast (a b : Nat) : (a : Int) / 2 ^ b = ((a / 2 ^ b : Nat) : Int) := by
  rw [Int.natCast_ediv, Int.natCast_pow]; rfl

theorem div_lt (a b : Nat) (h : a < 9223372036854775808) : a / 2 ^ b < 9223372036854775808 := Nat.lt_of_le_of_lt (Nat.div_le_self _ _) h

theorem bit_one (a b : Nat) (h : a < 9223372036854775808) : bits .and .i64 ((a : Int) / 2 ^ b) 1 = if a.testBit b then 1 else 0 := by
  rw [div_cast, show (1 : Int) = ((1 : Nat) : Int) from rfl, i64_and_nat _ _ (div_lt a b h) (by omega), ← Nat.shiftRight_eq_div_pow, Nat.and_one_is_mod, Nat.testBit, Nat.one_and_eq_mod_two]
  rcases Nat.mod_two_eq_zero_or_one (a >>> b) with h | h <;> rw [h] <;> rfl

theorem bit_off (a b : Nat) (h : a < 9223372036854775808) : (bits .and .i64 ((a : Int) / 2 ^ b) 1 == 0) = !(a.testBit b) := by
  rw [bit_one a b h]; cases a.testBit b <;> rfl

theorem bit_on (a b : Nat) (h : a < 9223372036854775808) : (bits .and .i64 ((a : Int) / 2 ^ b) 1 == 1) = a.testBit b := by
  rw [bit_one a b h]; cases a.testBit b <;> rfl

end Go.Proofs.Ytnjaofkieajnlaa

/- The small functions of the program's boxes: noughts and the highest data. -/
namespace Go.Proofs.Ytnjaofkieajnlaa
open Go.RowKit

theorem shl_small (x : Nat) (h : x < 40) : RowKit.wrap64 (2 ^ x) = ((2 ^ x : Nat) : Int) ∧ IntKind.i64.wrap (2 ^ x) = ((2 ^ x : Nat) : Int) := by
  have h1 : 2 ^ x < 1099511627776 := Nat.lt_of_lt_of_le (Nat.pow_lt_pow_right (by omega) h) (by decide)
  have h2 : (2 : Int) ^ x = ((2 ^ x : Nat) : Int) := by rw [Int.natCast_pow]; rfl
  rw [h2]
  generalize 2 ^ x = y at *
  constructor
  · unfold RowKit.wrap64
    omega
  · exact wrapNat _ (by omega)

theorem and_unit (x j : Nat) : x &&& 2 ^ j = if x.testBit j then 2 ^ j else 0 := by
  apply Nat.eq_of_testBit_eq
  intro i
  rw [Nat.testBit_and, Nat.testBit_two_pow]
  by_cases e : j = i
  · subst e
    cases h : x.testBit j <;> simp
  · cases h : x.testBit j <;> simp [e]

/-- Whether a number has a bit, as the program asks. -/
theorem bit_eq (x j : Nat) (hx : x < 1099511627776) (hj : j < 40) : (bits .and .i64 (x : Int) (RowKit.wrap64 (2 ^ j)) == 0) = !(x.testBit j) ∧ (bits .and .i64 (x : Int) (IntKind.i64.wrap (2 ^ j)) == 0) = !(x.testBit j) := by
  obtain ⟨h1, h2⟩ := shl_small j hj
  have h3 : 2 ^ j < 1099511627776 := Nat.lt_of_lt_of_le (Nat.pow_lt_pow_right (by omega) hj) (by decide)
  rw [h1, h2, i64_and_nat x (2 ^ j) (by omega) (by omega), and_unit]
  have h0 : 0 < 2 ^ j := Nat.two_pow_pos j
  cases x.testBit j
  · simp
  · have : ¬ ((2 ^ j : Nat) : Int) = 0 := by omega
    refine ⟨?_, ?_⟩ <;> simp only [if_true] <;> exact beq_eq_false_iff_ne.2 this

theorem bit_ne (x j : Nat) (hx : x < 1099511627776) (hj : j < 40) : (bits .and .i64 (x : Int) (RowKit.wrap64 (2 ^ j)) != 0) = x.testBit j ∧ (bits .and .i64 (x : Int) (IntKind.i64.wrap (2 ^ j)) != 0) = x.testBit j := by
  obtain ⟨h1, h2⟩ := bit_eq x j hx hj
  unfold bne
  rw [h1, h2, Bool.not_not]
  exact ⟨rfl, rfl⟩

set_option maxRecDepth 100000 in
set_option maxHeartbeats 1000000 in
theorem bnoughts_any (z : Nat) (w : World) (hz : z ≤ 1000) :
    Calls Try.prog 87 #[.int .i64 (z : Int)] w fun e w' => e = .returned (.string (zeroB z)) ∧ Below w.heap.size w w' := by
  have hmk := run_make_bytes z (by omega)
  have hrow : byteRow (w.alloc (.cells (madeCells #[.int .u8 0] z) 5)) w.heap.size z (byteAt (zeroB z)) := (World.rowIs_made w (.int .u8 0) z 5).congr (fun i _ => by rw [byteAt_zeroB]; rfl)
  have hc : ∀ i, i < z → (w.alloc (.cells (madeCells #[.int .u8 0] z) 5)).cell? ⟨w.heap.size, 0 + i, none⟩ = some (.int .u8 ((numsB (zeroB z)).getD i 0)) := fun i hi => by
    rw [Nat.zero_add, numsB_getD]; exact hrow.cell hi
  have hcv := run_convert_bytes_arg (P := Try.prog) (w.alloc (.cells (madeCells #[.int .u8 0] z) 5)) 53 5 Try.underlying53 Try.underlying5 w.heap.size 0 z z (numsB (zeroB z)) (by rw [numsB_length]; exact zeroB_size z) hc 9 Try.underlying9
  rw [strOfNums_numsB] at hcv
  clear hc hrow
  go_enter Try.func87, Try.ntmps87
  go_wp2
  go_ret
  exact ⟨rfl, (Below.refl _ _).alloc (Nat.le_refl _) _⟩

set_option maxRecDepth 100000 in
set_option maxHeartbeats 1000000 in
theorem highest_any (x : Nat) (w : World) (hx : x < 1048576) (h0 : x ≠ 0) :
    Calls Try.prog 86 #[.int .i64 (x : Int)] w fun e w' => e = .returned (.int .i64 (x.log2 : Int)) ∧ w' = w := by
  have htop := top_of h0
  have h20 : x.log2 < 20 := (Nat.log2_lt h0).2 hx
  go_enter Try.func86, Try.ntmps86
  go_wp2
  go_loop [3] (fun jv => ∃ j : Nat, j < 20 ∧ jv = .int .i64 (j : Int) ∧ x.log2 ≤ j) (fun jv => (intOf jv).toNat)
  case atStart => exact ⟨19, by omega, rfl, by omega⟩
  case round =>
    obtain ⟨j, hj, rfl, hle⟩ := hrel
    obtain ⟨b1, b2⟩ := bit_ne x j (by omega) (by omega)
    clear b2
    by_cases hj0 : j = 0
    · subst hj0
      have e : x.log2 = 0 := by omega
      clear b1
      go_wp2
      go_ret
      exact ⟨rfl, rfl⟩
    · have hpos : (0 : Int) < (j : Int) := by omega
      by_cases e : x.log2 = j
      · have ht : x.testBit j = true := by rw [← e]; exact htop.1
        rw [ht] at b1
        go_wp2
        go_ret
        exact ⟨rfl, rfl⟩
      · have ht : x.testBit j = false := htop.2 j (by omega)
        rw [ht] at b1
        go_wp2
        go_round
        case rel => exact ⟨j - 1, by omega, by go_num, by omega⟩
        case measure => simp [intOf]; omega

end Go.Proofs.Ytnjaofkieajnlaa

/- Whether pieces are of one size that may be: the program's sizeOf and the document's Shaped; and sameTexts. -/
namespace Go.Proofs.Ytnjaofkieajnlaa
open Go.RowKit

/-- There are n pieces, all of one size from 1 to 16. -/
def Shaped (l : List ByteArray) (n : Nat) : Prop := l.length = n ∧ ∀ k, k < l.length → (l.getD k ByteArray.empty).size = (l.getD 0 ByteArray.empty).size ∧ 1 ≤ (l.getD k ByteArray.empty).size ∧ (l.getD k ByteArray.empty).size ≤ 16

set_option maxRecDepth 100000 in
set_option maxHeartbeats 2000000 in
theorem sizeOf_any (v : Value) (l : List ByteArray) (n : Nat) (w : World) (hn : 1 ≤ n ∧ n ≤ 1000) (hl : l.length ≤ 8796093022208) (ht : TextsAt w v l) :
    Calls Try.prog 58 #[v, .int .i64 (n : Int)] w fun e w' => (∃ r : Nat, e = .returned (.int .i64 (r : Int)) ∧ (Shaped l n → r = (l.getD 0 ByteArray.empty).size ∧ 1 ≤ r ∧ r ≤ 16) ∧ (¬ Shaped l n → r = 0)) ∧ w' = w := by
  obtain ⟨ao, cap, rfl, hcap, hc⟩ := ht
  by_cases hln : l.length = n
  · subst hln
    have hl0 : 0 < l.length := by omega
    obtain ⟨q, o, rfl, hq, hc0⟩ := hc 0 hl0
    have hcells : ∀ k, k < l.length → w.cell? ⟨q, o + k, none⟩ = some (.string (l.getD k ByteArray.empty)) := fun k hk => by
      obtain ⟨q', o', he, _, hcell⟩ := hc k hk
      simp at he
      obtain ⟨rfl, rfl⟩ := he
      exact hcell
    have HC := hide hcells
    have hsh : Hid (Shaped l l.length ↔ ∀ k, k < l.length → (l.getD k ByteArray.empty).size = (l.getD 0 ByteArray.empty).size ∧ 1 ≤ (l.getD k ByteArray.empty).size ∧ (l.getD k ByteArray.empty).size ≤ 16) := hide ⟨fun h => h.2, fun h => ⟨rfl, h⟩⟩
    clear hc hcells
    simp only [Nat.add_zero] at hc0
    generalize hp : l.getD 0 ByteArray.empty = p at *
    have Hp := hide hp
    clear hp
    by_cases h16 : 16 < p.size
    · have hno : ¬ Shaped l l.length := fun h => by have := (hsh.out.1 h) 0 hl0; rw [Hp.out] at this; omega
      have Hno := hide hno
      clear hno
      go_enter Try.func58, Try.ntmps58
      go_wp2
      go_ret
      exact ⟨⟨0, rfl, fun h => absurd h Hno.out, fun _ => rfl⟩, rfl⟩
    · have h16' : p.size ≤ 16 := by omega
      go_enter Try.func58, Try.ntmps58
      go_wp2
      clear hc0
      go_loop [24] (fun i => ∃ k : Nat, k ≤ l.length ∧ i = .int .i64 k ∧ ∀ j, j < k → (l.getD j ByteArray.empty).size = p.size) (fun i => l.length - (intOf i).toNat)
      case atStart => exact ⟨0, Nat.zero_le _, rfl, fun j hj => by omega⟩
      case round =>
        obtain ⟨k, hk, rfl, hall⟩ := hrel
        have Hall := hide hall
        clear hall
        by_cases hlt : k < l.length
        · have hcell := HC.out k hlt
          generalize hx : l.getD k ByteArray.empty = x at *
          have Hx := hide hx
          clear hx
          by_cases he : x.size = p.size
          · have hb : ((x.size : Int) != (p.size : Int)) = false := by simp [he]
            have He := hide he
            clear he
            go_wp2
            go_round
            case rel =>
              refine ⟨k + 1, by omega, by go_num, fun j hj => ?_⟩
              by_cases e : j = k
              · subst e; rw [Hx.out]; exact He.out
              · exact Hall.out j (by omega)
            case measure => simp [intOf]; omega
          · have hb : ((x.size : Int) != (p.size : Int)) = true := by simp; omega
            have hno : ¬ Shaped l l.length := fun h => by have := (hsh.out.1 h) k hlt; rw [Hx.out] at this; omega
            have Hno := hide hno
            clear hno he
            go_wp2
            go_ret
            exact ⟨⟨0, rfl, fun h => absurd h Hno.out, fun _ => rfl⟩, rfl⟩
        · have hkl : k = l.length := by omega
          go_wp2
          go_ret
          refine ⟨⟨p.size, rfl, fun h => ?_, fun h => ?_⟩, rfl⟩
          · have := (hsh.out.1 h) 0 hl0
            rw [Hp.out] at this
            exact ⟨rfl, this.2.1, this.2.2⟩
          · by_cases h1 : 1 ≤ p.size
            · exact absurd (hsh.out.2 (fun j hj => by have := Hall.out j (by omega); omega)) h
            · omega
  · have hno : ¬ Shaped l n := fun h => hln h.1
    have hb : ((l.length : Int) != (n : Int)) = true := by simp; omega
    have Hno := hide hno
    clear hno hln hc
    go_enter Try.func58, Try.ntmps58
    go_wp2
    go_ret
    exact ⟨⟨0, rfl, fun h => absurd h Hno.out, fun _ => rfl⟩, rfl⟩

end Go.Proofs.Ytnjaofkieajnlaa

/- The document's Shaped; sameTexts says yes to two lists of the same texts; handed and still. -/
namespace Go.Proofs.Ytnjaofkieajnlaa
open Go.RowKit

theorem texts_cells {w : World} {ao : Option Addr} {l : List ByteArray} {q o : Nat} (hc : ∀ k, k < l.length → ∃ q o, ao = some ⟨q, o, none⟩ ∧ q < w.heap.size ∧ w.cell? ⟨q, o + k, none⟩ = some (.string (l.getD k ByteArray.empty))) (he : ao = some ⟨q, o, none⟩) :
    ∀ k, k < l.length → w.cell? ⟨q, o + k, none⟩ = some (.string (l.getD k ByteArray.empty)) := fun k hk => by
  obtain ⟨q', o', he', _, hcell⟩ := hc k hk
  rw [he] at he'
  simp at he'
  obtain ⟨rfl, rfl⟩ := he'
  exact hcell

/-- The answer tells whether p. -/
def Tells (p : Prop) (e : Ending) : Prop := ∃ b, e = .returned (.bool b) ∧ (p → b = true) ∧ (¬ p → b = false)

set_option maxRecDepth 100000 in
set_option maxHeartbeats 2000000 in
theorem shaped_any (v : Value) (l : List ByteArray) (n : Nat) (w : World) (hn : n ≤ 1000) (hl : l.length ≤ 8796093022208) (ht : TextsAt w v l) :
    Calls Try.prog 17 #[v, .int .i64 (n : Int)] w fun e w' => Tells (Shaped l n) e ∧ w' = w := by
  obtain ⟨ao, cap, rfl, hcap, hc⟩ := ht
  by_cases hln : l.length = n
  · subst hln
    have hsh : Hid (Shaped l l.length ↔ ∀ k, k < l.length → (l.getD k ByteArray.empty).size = (l.getD 0 ByteArray.empty).size ∧ 1 ≤ (l.getD k ByteArray.empty).size ∧ (l.getD k ByteArray.empty).size ≤ 16) := hide ⟨fun h => h.2, fun h => ⟨rfl, h⟩⟩
    have HC := hide hc
    clear hc
    go_enter Try.func17, Try.ntmps17
    go_wp2
    go_loop [13] (fun i => ∃ k : Nat, k ≤ l.length ∧ i = .int .i64 k ∧ ∀ j, j < k → (l.getD j ByteArray.empty).size = (l.getD 0 ByteArray.empty).size ∧ 1 ≤ (l.getD j ByteArray.empty).size ∧ (l.getD j ByteArray.empty).size ≤ 16) (fun i => l.length - (intOf i).toNat)
    case atStart => exact ⟨0, Nat.zero_le _, rfl, fun j hj => by omega⟩
    case round =>
      obtain ⟨k, hk, rfl, hall⟩ := hrel
      have Hall := hide hall
      clear hall
      by_cases hlt : k < l.length
      · obtain ⟨q, o, rfl, hq, hcell⟩ := HC.out k hlt
        have hc0 := texts_cells HC.out rfl 0 (by omega)
        simp only [Nat.add_zero] at hc0
        generalize hx : l.getD k ByteArray.empty = x at *
        generalize hp : l.getD 0 ByteArray.empty = p at *
        have Hx := hide hx
        have Hp := hide hp
        clear hx hp
        by_cases hgood : x.size = p.size ∧ 1 ≤ x.size ∧ x.size ≤ 16
        · have hb1 : ((x.size : Int) != (p.size : Int)) = false := by simp; omega
          have hb2 : decide ((x.size : Int) < 1) = false := by simp; omega
          have hb3 : decide ((16 : Int) < (x.size : Int)) = false := by simp; omega
          have Hg := hide hgood
          clear hgood
          go_wp2
          go_round
          case rel =>
            refine ⟨k + 1, by omega, by go_num, fun j hj => ?_⟩
            by_cases e : j = k
            · subst e; rw [Hx.out]; exact Hg.out
            · exact Hall.out j (by omega)
          case measure => simp [intOf]; omega
        · have hno : ¬ Shaped l l.length := fun h => by have := (hsh.out.1 h) k hlt; rw [Hx.out] at this; exact hgood this
          have Hno := hide hno
          have hor : (x.size ≠ p.size) ∨ (x.size = p.size ∧ x.size < 1) ∨ (x.size = p.size ∧ 1 ≤ x.size ∧ 16 < x.size) := by omega
          clear hno hgood
          rcases hor with h1 | ⟨h1, h2⟩ | ⟨h1, h2, h3⟩
          · have hb1 : ((x.size : Int) != (p.size : Int)) = true := by simp; omega
            clear h1
            go_wp2
            go_ret
            exact ⟨⟨false, rfl, fun h => absurd h Hno.out, fun _ => rfl⟩, rfl⟩
          · have hb1 : ((x.size : Int) != (p.size : Int)) = false := by simp; omega
            have hb2 : decide ((x.size : Int) < 1) = true := by simp; omega
            clear h1
            go_wp2
            go_ret
            exact ⟨⟨false, rfl, fun h => absurd h Hno.out, fun _ => rfl⟩, rfl⟩
          · have hb1 : ((x.size : Int) != (p.size : Int)) = false := by simp; omega
            have hb2 : decide ((x.size : Int) < 1) = false := by simp; omega
            clear h1
            go_wp2
            go_ret
            exact ⟨⟨false, rfl, fun h => absurd h Hno.out, fun _ => rfl⟩, rfl⟩
      · go_wp2
        go_ret
        exact ⟨⟨true, rfl, fun _ => rfl, fun h => absurd (hsh.out.2 (fun j hj => Hall.out j (by omega))) h⟩, rfl⟩
  · have hno : ¬ Shaped l n := fun h => hln h.1
    have hb : ((l.length : Int) != (n : Int)) = true := by simp; omega
    have Hno := hide hno
    clear hno hln hc
    go_enter Try.func17, Try.ntmps17
    go_wp2
    go_ret
    exact ⟨⟨false, rfl, fun h => absurd h Hno.out, fun _ => rfl⟩, rfl⟩

set_option maxRecDepth 100000 in
set_option maxHeartbeats 2000000 in
theorem sameTexts_yes (v1 v2 : Value) (l : List ByteArray) (w : World) (hl : l.length ≤ 8796093022208) (h1 : TextsAt w v1 l) (h2 : TextsAt w v2 l) :
    Calls Try.prog 37 #[v1, v2] w fun e w' => e = .returned (.bool true) ∧ Chg (fun _ => False) w w' := by
  obtain ⟨a1, p1, rfl, hp1, hc1⟩ := h1
  obtain ⟨a2, p2, rfl, hp2, hc2⟩ := h2
  have H1 := hide hc1
  have H2 := hide hc2
  clear hc1 hc2
  go_enter Try.func37, Try.ntmps37
  go_wp2
  go_loopw [13] (fun i wr => ∃ k : Nat, k ≤ l.length ∧ i = .int .i64 k ∧ Chg (fun _ => False) w wr) (fun i _ => l.length - (intOf i).toNat)
  case atStart => exact ⟨0, Nat.zero_le _, rfl, Chg.refl _ _⟩
  case round =>
    obtain ⟨k, hk, rfl, hcg⟩ := hrel
    by_cases hlt : k < l.length
    · obtain ⟨q1, o1, rfl, b1, e1⟩ := H1.out k hlt
      obtain ⟨q2, o2, rfl, b2, e2⟩ := H2.out k hlt
      have e1' := (hcg.cell (a := ⟨q1, o1 + k, none⟩) b1 (fun x => x)).trans e1
      have e2' := (hcg.cell (a := ⟨q2, o2 + k, none⟩) b2 (fun x => x)).trans e2
      clear e1 e2
      generalize l.getD k ByteArray.empty = x at *
      have i1 : (0 : Int) ≤ (k : Int) := by omega
      have i2 : (k : Int) < (l.length : Int) := by omega
      go_wp2_with fail
      go_quiet (fail)
      have hcq := hcg.drewN nq
      clear hcg e1' e2'
      go_wp2
      go_roundw
      case rel => exact ⟨k + 1, by omega, by go_num, hcq⟩
      case measure => simp [intOf]; omega
    · go_wp2
      go_ret
      exact ⟨rfl, hcg⟩

end Go.Proofs.Ytnjaofkieajnlaa
