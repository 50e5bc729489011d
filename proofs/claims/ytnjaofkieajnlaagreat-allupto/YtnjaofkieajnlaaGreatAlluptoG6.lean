/- Texts of the proof, part 7. -/
import Derived.BigQuiet
import Derived.Deep.QuietTactic
import Derived.Laws.Bits64b
import Derived.Laws.BytesArg
import Derived.Test.YtnjaofkieajnlaaGreatAlluptoG0
import Derived.Test.YtnjaofkieajnlaaGreatAlluptoG5
import Derived.WalkKit

/- sameRows says yes to two tables of the same rows. -/
namespace Go.Proofs.YtnjaofkieajnlaaGreat
open Go.RowKit

/-- What a slice of numbers that is owned looks like. -/
theorem owns_view {w : World} {base : Nat} {v : Value} {l : List Nat} (h : w.ownsRow base 3 1 v l.length (numsV l)) :
    ∃ ao cap, v = .slice ao l.length cap ∧ ∀ k, k < l.length → ∃ q, ao = some ⟨q, 0, none⟩ ∧ w.cell? ⟨q, k, none⟩ = some (.int .i64 (l.getD k 0 : Int)) := by
  rcases owns_cells h with ⟨rfl, rfl⟩ | ⟨g, cap, rfl, _, hc⟩
  · exact ⟨none, 0, rfl, fun k hk => by simp at hk⟩
  · exact ⟨_, cap, rfl, fun k hk => ⟨g, rfl, hc k hk⟩⟩

set_option maxRecDepth 100000 in
set_option maxHeartbeats 2000000 in
theorem sameRows_yes (g1 g2 b1 b2 M : Nat) (rv1 rv2 : Nat → Value) (L : Nat → List Nat) (w : World) (hM : M ≤ 20) (hL : ∀ i, i < M → (L i).length ≤ 1000) (h1 : RowsAt w b1 g1 M rv1 L) (h2 : RowsAt w b2 g2 M rv2 L) :
    Calls Tryz.prog 19 #[.slice (some ⟨g1, 0, none⟩) M M, .slice (some ⟨g2, 0, none⟩) M M] w fun e w' => e = .returned (.bool true) ∧ Chg (fun _ => False) w w' := by
  go_enter Tryz.func19, Tryz.ntmps19
  go_wp2_with fail
  go_loopw [14] (fun i wr => ∃ k : Nat, k ≤ M ∧ i = .int .i64 k ∧ Chg (fun _ => False) w wr) (fun i _ => M - (intOf i).toNat)
  case atStart => exact ⟨0, Nat.zero_le _, rfl, Chg.refl _ _⟩
  case round =>
    obtain ⟨i, hi, rfl, hcg⟩ := hrel
    by_cases hiM : i < M
    · have r1 := h1.chg hcg (fun x => x) (fun _ _ _ x => x)
      have r2 := h2.chg hcg (fun x => x) (fun _ _ _ x => x)
      have c1 := r1.cell hiM
      have c2 := r2.cell hiM
      have o1 := r1.own i hiM
      have o2 := r2.own i hiM
      have hLi := hL i hiM
      have j1 : (0 : Int) ≤ (i : Int) := by omega
      have j2 : (i : Int) < (M : Int) := by omega
      obtain ⟨a1, p1, e1, v1⟩ := owns_view o1
      obtain ⟨a2, p2, e2, v2⟩ := owns_view o2
      rw [e1] at c1
      rw [e2] at c2
      clear r1 r2 o1 o2 e1 e2
      go_wp2_with fail
      go_quiet (fail)
      go_wp2_with fail
      have hcq := hcg.drewN nq
      clear hcg c1 c2 v1 v2
      go_loopw [33] (fun t wr => ∃ k : Nat, k ≤ (L i).length ∧ t = .int .i64 k ∧ Chg (fun _ => False) w wr) (fun t _ => (L i).length - (intOf t).toNat)
      case atStart => exact ⟨0, Nat.zero_le _, rfl, hcq⟩
      case round =>
        clear hcq
        obtain ⟨k, hk, rfl, hcg⟩ := hrel
        by_cases hkl : k < (L i).length
        · have r1 := h1.chg hcg (fun x => x) (fun _ _ _ x => x)
          have r2 := h2.chg hcg (fun x => x) (fun _ _ _ x => x)
          have c1 := r1.cell hiM
          have c2 := r2.cell hiM
          obtain ⟨a3, p3, e1, v1⟩ := owns_view (r1.own i hiM)
          obtain ⟨a4, p4, e2, v2⟩ := owns_view (r2.own i hiM)
          rw [e1] at c1
          rw [e2] at c2
          obtain ⟨q1, rfl, d1⟩ := v1 k hkl
          obtain ⟨q2, rfl, d2⟩ := v2 k hkl
          have k1 : (0 : Int) ≤ (k : Int) := by omega
          have k2 : (k : Int) < ((L i).length : Int) := by omega
          generalize (L i).getD k 0 = x at *
          clear r1 r2 v1 v2 e1 e2
          go_wp2_with fail
          go_quiet (fail)
          have hcq := hcg.drewN nq
          clear hcg c1 c2 d1 d2
          go_wp2
          go_roundw
          case rel => exact ⟨k + 1, by omega, by go_num, hcq⟩
          case measure => simp [intOf]; omega
        · go_wp2
          go_roundw
          case rel => exact ⟨i + 1, by omega, by go_num, hcg⟩
          case measure => simp [intOf]; omega
    · go_wp2
      go_ret
      exact ⟨rfl, hcg⟩

end Go.Proofs.YtnjaofkieajnlaaGreat

/- The document's own sums: noughts, plus, total. -/
namespace Go.Proofs.YtnjaofkieajnlaaGreat
open Go.RowKit

theorem Tryz.infoByte : (Tryz.prog.info? 5).map (fun i => (i.zero, i.size, i.bytes)) = some (some (.int .u8 0), 1, 1) := by kernel_rfl
theorem Tryz.infoText : (Tryz.prog.info? 9).map (fun i => (i.zero, i.size, i.bytes)) = some (some (.string ByteArray.empty), 1, 16) := by kernel_rfl

theorem strOfNums_numsB (a : ByteArray) : strOfNums (numsB a) = a := by
  cases a with
  | mk d =>
    have h : ((fun n : Int => UInt8.ofNat n.toNat) ∘ fun b : UInt8 => (b.toNat : Int)) = id := by funext b; simp
    unfold strOfNums numsB
    rw [List.map_map, h, List.map_id]

/-- Bytes as values. -/
def bytesV (a : ByteArray) : List Value := (numsB a).map (Value.int .u8)

set_option maxRecDepth 100000 in
set_option maxHeartbeats 1000000 in
theorem noughts_any (n : Nat) (w : World) (hn : n ≤ 1000000) :
    Calls Tryz.prog 54 #[.int .i64 (n : Int)] w fun e w' => e = .returned (.string (zeroB n)) ∧ w' = w := by
  go_enter Tryz.func54, Tryz.ntmps54
  go_wp2
  go_loop [3, 5] (fun t i => ∃ k : Nat, k ≤ n ∧ i = .int .i64 k ∧ t = .string (zeroB k)) (fun _ i => n - (intOf i).toNat)
  case atStart => exact ⟨0, Nat.zero_le _, rfl, rfl⟩
  case round =>
    obtain ⟨k, hk, rfl, rfl⟩ := hrel
    have hz := zeroB_succ k
    have Hz := hide hz
    have hs := zeroB_size k
    clear hz
    by_cases hlt : k < n
    · go_wp2
      go_round
      case rel => exact ⟨k + 1, by omega, by go_num, by rw [Hz.out]⟩
      case measure => simp [intOf]; omega
    · have hkn : k = n := by omega
      subst hkn
      go_wp2
      go_ret
      exact ⟨rfl, rfl⟩

theorem bytesV_getElem (a : ByteArray) (i : Nat) (h : i < a.size) : (bytesV a)[i]? = some (.int .u8 ((byteAt a i).toNat : Int)) := by
  unfold bytesV
  rw [List.getElem?_map]
  have h2 : (numsB a)[i]? = some ((numsB a).getD i 0) := by
    rw [List.getD_eq_getElem?_getD, List.getElem?_eq_getElem (by rw [numsB_length]; exact h)]; rfl
  rw [h2, numsB_getD]; rfl

/-- The bytes of the sum as far as k. -/
theorem bytesV_take_succ (a b : ByteArray) (h : a.size = b.size) (k : Nat) (hk : k < a.size) :
    (bytesV (xorB a b)).take (k + 1) = (bytesV (xorB a b)).take k ++ [.int .u8 (((byteAt a k).toNat ^^^ (byteAt b k).toNat : Nat) : Int)] := by
  have hl : k < (bytesV (xorB a b)).length := by unfold bytesV; rw [List.length_map, numsB_length, xorB_size h]; exact hk
  rw [List.take_succ_eq_append_getElem hl]
  have h1 := bytesV_getElem (xorB a b) k (by rw [xorB_size h]; exact hk)
  rw [List.getElem?_eq_getElem hl, byteAt_xorB h k hk, toNat_xor] at h1
  simp only [Option.some.injEq] at h1
  rw [h1]

theorem bytesV_length (a : ByteArray) : (bytesV a).length = a.size := by unfold bytesV; rw [List.length_map, numsB_length]

/-- The cells of an owned row of bytes. -/
theorem owns_bytes {w : World} {base : Nat} {v : Value} {a : ByteArray} (h : w.ownsRow base 5 1 v a.size (bytesV a)) (h0 : 0 < a.size) :
    ∃ g cap, v = .slice (some ⟨g, 0, none⟩) a.size cap ∧ ∀ k, k < a.size → w.cell? ⟨g, 0 + k, none⟩ = some (.int .u8 ((numsB a).getD k 0)) := by
  rcases h.2 with ⟨rfl, hn⟩ | ⟨g, cap, cur, rfl, _, hg, hc, _, _, ht⟩
  · omega
  · refine ⟨g, cap, rfl, fun k hk => ?_⟩
    rw [cell_of_row _ _ _ _ _ _ hg, Nat.zero_add]
    have h1 := bytesV_getElem a k hk
    rw [← ht, List.getElem?_take] at h1
    rw [if_pos (by omega)] at h1
    rw [numsB_getD]
    simpa using h1

set_option maxRecDepth 100000 in
set_option maxHeartbeats 2000000 in
theorem plus_any (a b : ByteArray) (w : World) (h : a.size = b.size) (h0 : 0 < a.size) (h16 : a.size ≤ 1000) :
    Calls Tryz.prog 90 #[.string a, .string b] w fun e w' => e = .returned (.string (xorB a b)) ∧ Below w.heap.size w w' := by
  obtain ⟨i0, hi, hz0, hz1, hz2⟩ := info_parts Tryz.infoByte
  go_enter Tryz.func90, Tryz.ntmps90
  go_wp2_with fail
  go_loopw [5, 9] (fun v i wr => ∃ k : Nat, k ≤ a.size ∧ i = .int .i64 k ∧ wr.ownsRow w.heap.size 5 1 v k ((bytesV (xorB a b)).take k) ∧ Below w.heap.size w wr) (fun _ i _ => a.size - (intOf i).toNat)
  case atStart => exact ⟨0, Nat.zero_le _, rfl, World.ownsRow_nil _ _ _ _, Below.refl _ _⟩
  case round =>
    obtain ⟨k, hk, rfl, hown, hbel⟩ := hrel
    by_cases hlt : k < a.size
    · have hlb : k < b.size := by omega
      have g1 := byteAt_get a k hlt
      have g2 := byteAt_get b k hlb
      have hts := bytesV_take_succ a b h k hlt
      have hx := u8_xor_nat (byteAt a k).toNat (byteAt b k).toNat (byteAt a k).toNat_lt (byteAt b k).toNat_lt
      have Ht := hide hts
      have Hh := hide h
      clear hts h
      have i1 : (0 : Int) ≤ (k : Int) := by omega
      have i2 : (k : Int) < (a.size : Int) := by omega
      have i3 : (k : Int) < (b.size : Int) := by omega
      have hsz := hbel.size
      go_wp2_with fail
      go_region_law ((refine step_append_lies _ (by rfl) (.tmp 12) (.tmp 20) 106 (by rfl) w.heap.size 5 i0 (.int .u8 0) 1 1 Tryz.underlying106 hi hz0 hz1 hz2 rfl (by decide) _ _ _ (by rfl) (World.ownsRow.drew (World.ownsRow.alloc hown _)) ⟨wr.heap.size, 0, none⟩ 1 1 [.int .u8 (((byteAt a k).toNat ^^^ (byteAt b k).toNat : Nat) : Int)] (by rfl) rfl (World.news_of_block (cs := #[_]) (heap_alloc_new wr _)) (one_oneCell rfl) (by decide) (by unfold maxLen; omega) (by omega) (by simp; omega) (wr.heap.size + 1) (by simp) ?_; intro gg cap w2 hown2 hgr hat2 hlt2))
      all_goals
        have hb2 : Below w.heap.size w w2 := ((hbel.alloc hsz _).drew).grown hgr (by simp; omega) (fun q hq => (hown.lt q hq).1)
        have hown3 : w2.ownsRow w.heap.size 5 1 (.slice (some ⟨gg, 0, none⟩) (k + 1) cap) (k + 1) ((bytesV (xorB a b)).take (k + 1)) := by rw [Ht.out]; exact hown2
        clear hown2 hgr hat2 hbel hown g1 g2
        go_wp2
        go_roundw
        case rel => exact ⟨k + 1, by omega, by go_num, hown3, hb2⟩
        case measure => simp [intOf]; omega
    · have hk2 : k = a.size := by omega
      have hxs := xorB_size h
      have hb3 : ¬ k < b.size := by omega
      have hown3 : wr.ownsRow w.heap.size 5 1 u5 (xorB a b).size (bytesV (xorB a b)) := by
        rw [hk2, List.take_of_length_le (by rw [bytesV_length]; omega)] at hown
        rw [hxs]; exact hown
      obtain ⟨g, cap, rfl, hc⟩ := owns_bytes hown3 (by omega)
      have hcv := run_convert_bytes_arg (P := Tryz.prog) wr 106 5 Tryz.underlying106 Tryz.underlying5 g 0 (xorB a b).size cap (numsB (xorB a b)) (numsB_length _) hc 9 Tryz.underlying9
      rw [strOfNums_numsB] at hcv
      clear hc hown hown3 hxs
      go_wp2
      go_ret
      exact ⟨rfl, hbel⟩

/-- A slice of texts, as it is read: its elements are l. -/
def TextsAt (w : World) (v : Value) (l : List ByteArray) : Prop :=
  ∃ ao cap, v = .slice ao l.length cap ∧ l.length ≤ cap ∧ ∀ k, k < l.length → ∃ q o, ao = some ⟨q, o, none⟩ ∧ q < w.heap.size ∧ w.cell? ⟨q, o + k, none⟩ = some (.string (l.getD k ByteArray.empty))

theorem TextsAt.on {w w1 : World} {v : Value} {l : List ByteArray} (h : TextsAt w v l) (hb : Below w.heap.size w w1) : TextsAt w1 v l := by
  obtain ⟨ao, cap, hv, hl, hc⟩ := h
  refine ⟨ao, cap, hv, hl, fun k hk => ?_⟩
  obtain ⟨q, o, ha, hq, hcell⟩ := hc k hk
  exact ⟨q, o, ha, Nat.lt_of_lt_of_le hq hb.size, by rw [hb.cell hq]; exact hcell⟩

set_option maxRecDepth 100000 in
set_option maxHeartbeats 2000000 in
theorem total_any (v rv : Value) (l : List ByteArray) (row : List Nat) (size base : Nat) (w : World) (hl0 : 0 < l.length) (hr : row.length ≤ 1000000) (hs0 : 0 < size) (hs : size ≤ 1000) (hsz : ∀ x ∈ l, x.size = size) (hrow : ∀ j ∈ row, j < l.length)
    (hown : w.ownsRow base 3 1 rv row.length (numsV row)) (ht : TextsAt w v l) :
    Calls Tryz.prog 105 #[rv, v] w fun e w' => e = .returned (.string (sumB l row size)) ∧ Below w.heap.size w w' := by
  obtain ⟨ra, rcap, rfl, hrc⟩ := owns_view hown
  obtain ⟨ao, cap, rfl, hcap, hc⟩ := ht
  obtain ⟨q, o, rfl, hq, hc0⟩ := hc 0 hl0
  have hget : ∀ k, k < l.length → (l.getD k ByteArray.empty).size = size := fun k hk => hsz _ (by rw [List.getD_eq_getElem?_getD, List.getElem?_eq_getElem hk]; exact List.getElem_mem hk)
  have h0s := hget 0 hl0
  have hcells : ∀ k, k < l.length → w.cell? ⟨q, o + k, none⟩ = some (.string (l.getD k ByteArray.empty)) := fun k hk => by
    obtain ⟨q', o', he, _, hcell⟩ := hc k hk
    simp at he
    obtain ⟨rfl, rfl⟩ := he
    exact hcell
  have HC := hide hcells
  have HR := hide hrc
  have HG := hide hget
  have HS := hide hsz
  generalize hp0 : l.getD 0 ByteArray.empty = p0 at *
  have Hp0 := hide hp0
  clear hc hcells hrc hget hsz hown hp0
  simp only [Nat.add_zero] at hc0
  go_enter Tryz.func105, Tryz.ntmps105
  go_wp2_with fail
  refine (noughts_any size _ (by omega)).mono ?_
  rintro e w1 ⟨rfl, rfl⟩
  clear hc0 h0s
  go_wp2_with fail
  go_loopw [5, 15] (fun t i wr => ∃ k : Nat, k ≤ row.length ∧ i = .int .i64 k ∧ t = .string (sumB l (row.take k) size) ∧ Below w1.heap.size w1 wr) (fun _ i _ => row.length - (intOf i).toNat)
  case atStart => exact ⟨0, Nat.zero_le _, rfl, rfl, Below.refl _ _⟩
  case round =>
    obtain ⟨k, hk, rfl, rfl, hbel⟩ := hrel
    by_cases hlt : k < row.length
    · obtain ⟨qr, rfl, hcr⟩ := HR.out k hlt
      have hj : row.getD k 0 = row[k] := by simp [hlt]
      have hjl : row.getD k 0 < l.length := by rw [hj]; exact hrow _ (List.getElem_mem hlt)
      have hts : sumB l (row.take (k + 1)) size = xorB (sumB l (row.take k) size) (l.getD (row.getD k 0) ByteArray.empty) := by
        rw [sumB_take_succ l row size k hlt, ← hj]; unfold addAt; rw [if_pos hjl]
      have hps := HG.out _ hjl
      have hpc := HC.out _ hjl
      have hts2 := sumB_size HS.out (row.take k)
      have hcr2 := (hbel.cell (p := ⟨qr, k, none⟩) (block_lt_of_cell hcr)).trans hcr
      have hpc2 := (hbel.cell (p := ⟨q, o + row.getD k 0, none⟩) hq).trans hpc
      have Ht := hide hts
      clear hts hj hcr hpc
      generalize row.getD k 0 = j at *
      generalize l.getD j ByteArray.empty = p at *
      generalize sumB l (row.take k) size = t at *
      have Hps := hide hps
      have Hts := hide hts2
      clear hps hts2
      have i1 : (0 : Int) ≤ (j : Int) := by omega
      have i2 : (j : Int) < (l.length : Int) := by omega
      go_wp2_with fail
      refine (plus_any t p _ (by rw [Hts.out, Hps.out]) (by rw [Hts.out]; exact hs0) (by rw [Hts.out]; exact hs)).mono ?_
      rintro e w2 ⟨rfl, hb2⟩
      have hb3 := hbel.trans (hb2.mono hbel.size)
      clear hcr2 hpc2 hb2 hbel
      rw [← Ht.out]
      go_wp2
      go_roundw
      case rel => exact ⟨k + 1, by omega, by go_num, rfl, hb3⟩
      case measure => simp [intOf]; omega
    · have hall : row.take k = row := List.take_of_length_le (by omega)
      rw [hall]
      go_wp2
      go_ret
      exact ⟨rfl, hbel⟩

end Go.Proofs.YtnjaofkieajnlaaGreat

/- Go's own bit operations on ints that are no less than nought, as numbers. Nothing of the program. -/
namespace Go.Proofs.YtnjaofkieajnlaaGreat

theorem ofInt64 (a : Nat) (ha : a < 9223372036854775808) : (BitVec.ofInt 64 (a : Int)).toNat = a := by
  rw [BitVec.ofInt_natCast, BitVec.toNat_ofNat]; exact Nat.mod_eq_of_lt (by omega)

theorem wrapNat (n : Nat) (h : n < 9223372036854775808) : IntKind.i64.wrap (n : Int) = (n : Int) := IntWalk.i64_in _ (by omega)

theorem i64_and_nat (a b : Nat) (ha : a < 9223372036854775808) (hb : b < 9223372036854775808) : bits .and .i64 (a : Int) (b : Int) = ((a &&& b : Nat) : Int) := by
  have hx : a &&& b < 2 ^ 63 := Nat.and_lt_two_pow _ (by omega)
  show IntKind.i64.wrap ((BitVec.ofInt 64 (a : Int) &&& BitVec.ofInt 64 (b : Int)).toNat : Int) = _
  rw [BitVec.toNat_and, ofInt64 a ha, ofInt64 b hb]
  exact wrapNat _ (by omega)

theorem i64_or_nat (a b : Nat) (ha : a < 9223372036854775808) (hb : b < 9223372036854775808) : bits .or .i64 (a : Int) (b : Int) = ((a ||| b : Nat) : Int) := by
  have hx : a ||| b < 2 ^ 63 := Nat.or_lt_two_pow (by omega) (by omega)
  show IntKind.i64.wrap ((BitVec.ofInt 64 (a : Int) ||| BitVec.ofInt 64 (b : Int)).toNat : Int) = _
  rw [BitVec.toNat_or, ofInt64 a ha, ofInt64 b hb]
  exact wrapNat _ (by omega)

theorem i64_xor_nat (a b : Nat) (ha : a < 9223372036854775808) (hb : b < 9223372036854775808) : bits .xor .i64 (a : Int) (b : Int) = ((a ^^^ b : Nat) : Int) := by
  have hx : a ^^^ b < 2 ^ 63 := Nat.xor_lt_two_pow (by omega) (by omega)
  show IntKind.i64.wrap ((BitVec.ofInt 64 (a : Int) ^^^ BitVec.ofInt 64 (b : Int)).toNat : Int) = _
  rw [BitVec.toNat_xor, ofInt64 a ha, ofInt64 b hb]
  exact wrapNat _ (by omega)

theorem div_cast (a b : Nat) : (a : Int) / 2 ^ b = ((a / 2 ^ b : Nat) : Int) := by
  rw [Int.natCast_ediv, Int.natCast_pow]; rfl

theorem div_lt (a b : Nat) (h : a < 9223372036854775808) : a / 2 ^ b < 9223372036854775808 := Nat.lt_of_le_of_lt (Nat.div_le_self _ _) h

theorem bit_one (a b : Nat) (h : a < 9223372036854775808) : bits .and .i64 ((a : Int) / 2 ^ b) 1 = if a.testBit b then 1 else 0 := by
  rw [div_cast, show (1 : Int) = ((1 : Nat) : Int) from rfl, i64_and_nat _ _ (div_lt a b h) (by omega), ← Nat.shiftRight_eq_div_pow, Nat.and_one_is_mod, Nat.testBit, Nat.one_and_eq_mod_two]
  rcases Nat.mod_two_eq_zero_or_one (a >>> b) with h | h <;> rw [h] <;> rfl

theorem bit_off (a b : Nat) (h : a < 9223372036854775808) : (bits .and .i64 ((a : Int) / 2 ^ b) 1 == 0) = !(a.testBit b) := by
  rw [bit_one a b h]; cases a.testBit b <;> rfl

theorem bit_on (a b : Nat) (h : a < 9223372036854775808) : (bits .and .i64 ((a : Int) / 2 ^ b) 1 == 1) = a.testBit b := by
  rw [bit_one a b h]; cases a.testBit b <;> rfl

end Go.Proofs.YtnjaofkieajnlaaGreat

/- Rowed: for every specification the program's Rows answers as the document asks. -/
namespace Go.Proofs.YtnjaofkieajnlaaGreat
open Go.RowKit

theorem may_nats {K M O S : Int} (h : mayB K M O S = true) : ∃ k m o s : Nat, K = k ∧ M = m ∧ O = o ∧ S = s ∧ (1 ≤ k ∧ k ≤ 20) ∧ (1 ≤ m ∧ m ≤ 20) ∧ (1 ≤ o ∧ o ≤ m) ∧ s ≤ 65535 := by
  have hh := mayB_true h
  exact ⟨K.toNat, M.toNat, O.toNat, S.toNat, by omega, by omega, by omega, by omega, by omega, by omega, by omega, by omega⟩

theorem block_on {w w1 : World} {h : Nat} {o : Obj} (hs : w.heap[h]? = some o) (hb : Below w.heap.size w w1) : w1.heap[h]? = some o := by
  rw [hb.block h (Array.getElem?_eq_some_iff.1 hs).1]; exact hs

theorem may_below (K M O S : Int) (w : World) :
    Calls Tryz.prog 24 #[specV K M O S] w fun e w' => e = .returned (.bool (mayB K M O S)) ∧ Below w.heap.size w w' := by
  refine (may_any K M O S w).mono ?_
  rintro e w' ⟨rfl, rfl⟩
  exact ⟨rfl, (Below.refl _ _).alloc (Nat.le_refl _) _⟩

/-- The cells of a specification of whatever numbers. -/
theorem spec_cellsI {w : World} {h : Nat} {K M O S : Int} (hs : w.heap[h]? = some (.cells #[.int .i64 K, .int .i64 M, .int .i64 O, .int .i64 S] 25 (0, 0))) :
    w.cell? ⟨h, 0, none⟩ = some (.int .i64 K) ∧ w.cell? ⟨h, 1, none⟩ = some (.int .i64 M) ∧ w.cell? ⟨h, 2, none⟩ = some (.int .i64 O) ∧ w.cell? ⟨h, 3, none⟩ = some (.int .i64 S) := by
  refine ⟨?_, ?_, ?_, ?_⟩ <;> (rw [cell_of_row _ _ _ _ _ _ hs]; rfl)

set_option maxRecDepth 100000 in
set_option maxHeartbeats 1000000 in
theorem lawRows_ok (K M O S : Nat) (w : World) (hK : 1 ≤ K ∧ K ≤ 20) (hM : 1 ≤ M ∧ M ≤ 20) (hO : 1 ≤ O ∧ O ≤ M) (hS : S ≤ 65535) :
    Calls Tryz.prog 44 #[specV K M O S] w fun e w' => ∃ g rv, e = .returned (.tuple #[.slice (some ⟨g, 0, none⟩) M M, .bool true]) ∧ RowsAt w' (g + 1) g M rv (rowOf K M O S) ∧ w.heap.size ≤ g ∧ Below w.heap.size w w' := by
  have hmay : mayB K M O S = true := by simp [mayB]; omega
  go_enter Tryz.func44, Tryz.ntmps44
  go_wp2_with fail
  refine (rows_ok K M O S _ hK hM hO hS).mono ?_
  rintro e w1 ⟨g, rv, rfl, hr, hg, hb⟩
  have hs1 := block_on (heap_alloc_new w _) hb
  have hb1 : Below w.heap.size w w1 := ((Below.refl _ _).alloc (Nat.le_refl _) _).trans (hb.mono (by simp))
  simp only [World.size_alloc] at hg
  obtain ⟨c0, c1, c2, c3⟩ := spec_cellsI hs1
  clear hb
  go_wp2_with fail
  refine (may_below _ _ _ _ _).mono ?_
  rintro e w2 ⟨rfl, hb⟩
  rw [hmay]
  have hs2 := block_on hs1 hb
  have hb2 := hb1.trans (hb.mono hb1.size)
  have hr2 := hr.below hb
  clear c0 c1 c2 c3 hs1 hb1 hr hb
  obtain ⟨c0, c1, c2, c3⟩ := spec_cellsI hs2
  go_wp2_with fail
  refine (rrows_ok K M O S _ hK hM hO hS).mono ?_
  rintro e w3 ⟨g3, rv3, rfl, hr3, hg3, hb⟩
  have hb3 := hb2.trans (hb.mono hb2.size)
  have hr2' := hr2.below hb
  clear c0 c1 c2 c3 hs2 hb2 hr2 hb
  go_wp2_with fail
  refine (sameRows_yes g g3 (g + 1) (g3 + 1) M rv rv3 _ _ (by omega) (fun i _ => by have := rowOf_len K M O S i; omega) hr2' hr3).mono ?_
  rintro e w4 ⟨rfl, hcg⟩
  have hr4 := hr2'.chg hcg (fun x => x) (fun _ _ _ x => x)
  have hb4 := ((Chg.of_below hb3 (fun _ => False)).trans hcg (fun _ _ x => x)).below (fun _ _ x => x)
  clear hcg hr2' hr3 hb3
  go_wp2
  go_ret2
  exact ⟨g, rv, rfl, hr4, by omega, hb4⟩

set_option maxRecDepth 100000 in
set_option maxHeartbeats 1000000 in
theorem lawRows_bad (K M O S : Int) (w : World) (hmay : mayB K M O S = false) :
    Calls Tryz.prog 44 #[specV K M O S] w fun e w' => e = .returned (.tuple #[.slice none 0 0, .bool true]) ∧ Below w.heap.size w w' := by
  go_enter Tryz.func44, Tryz.ntmps44
  go_wp2_with fail
  refine (rows_bad K M O S _ hmay).mono ?_
  rintro e w1 ⟨rfl, hb⟩
  have hs1 := block_on (heap_alloc_new w _) hb
  have hb1 : Below w.heap.size w w1 := ((Below.refl _ _).alloc (Nat.le_refl _) _).trans (hb.mono (by simp))
  obtain ⟨c0, c1, c2, c3⟩ := spec_cellsI hs1
  clear hb
  go_wp2_with fail
  refine (may_below _ _ _ _ _).mono ?_
  rintro e w2 ⟨rfl, hb⟩
  rw [hmay]
  have hb2 := hb1.trans (hb.mono hb1.size)
  clear c0 c1 c2 c3 hs1 hb1 hb
  go_wp2
  go_ret2
  exact ⟨rfl, hb2⟩

end Go.Proofs.YtnjaofkieajnlaaGreat

/- The document's own packets. -/
namespace Go.Proofs.YtnjaofkieajnlaaGreat
open Go.RowKit

theorem heap_alloc2p (w : World) (a b : Obj) : ((w.alloc a).alloc b).heap[w.heap.size + 1]? = some b := by
  have h := heap_alloc_new (w.alloc a) b
  rw [World.size_alloc] at h
  exact h

/-- The bytes of a packet's head behind its first. -/
def headB (K M O S z i : Nat) : ByteArray := ⟨#[UInt8.ofNat K, UInt8.ofNat M, UInt8.ofNat O, UInt8.ofNat (S % 256), UInt8.ofNat (S / 256), UInt8.ofNat z, UInt8.ofNat i]⟩

/-- A packet without its last byte. -/
def packT (K M O S z i : Nat) (p : ByteArray) : ByteArray := ⟨#[82]⟩ ++ headB K M O S z i ++ p

/-- The byte that makes the sum of the first k bytes nought. -/
def chkTo (t : ByteArray) : Nat → UInt8
  | 0 => 0
  | k + 1 => chkTo t k - byteAt t k

/-- A packet. -/
def packB (K M O S z i : Nat) (p : ByteArray) : ByteArray := packT K M O S z i p ++ ⟨#[chkTo (packT K M O S z i p) (packT K M O S z i p).size]⟩

theorem ofNat_u8 (n : Nat) (h : n ≤ 255) : ((UInt8.ofNat n).toNat : Int) = (n : Int) := by
  rw [UInt8.toNat_ofNat']
  omega

theorem numsB_head (K M O S z i : Nat) (hK : K ≤ 20) (hM : M ≤ 20) (hO : O ≤ 20) (hS : S ≤ 65535) (hz : z ≤ 255) (hi : i ≤ 255) : numsB (headB K M O S z i) = [(K : Int), (M : Int), (O : Int), ((S % 256 : Nat) : Int), ((S / 256 : Nat) : Int), (z : Int), (i : Int)] := by
  show [((UInt8.ofNat K).toNat : Int), ((UInt8.ofNat M).toNat : Int), ((UInt8.ofNat O).toNat : Int), ((UInt8.ofNat (S % 256)).toNat : Int), ((UInt8.ofNat (S / 256)).toNat : Int), ((UInt8.ofNat z).toNat : Int), ((UInt8.ofNat i).toNat : Int)] = _
  rw [ofNat_u8 K (by omega), ofNat_u8 M (by omega), ofNat_u8 O (by omega), ofNat_u8 (S % 256) (by omega), ofNat_u8 (S / 256) (by omega), ofNat_u8 z hz, ofNat_u8 i hi]

theorem packT_size (K M O S z i : Nat) (p : ByteArray) : (packT K M O S z i p).size = 8 + p.size := by
  unfold packT
  rw [ByteArray.size_append, ByteArray.size_append]; rfl

theorem low_byte (S : Nat) (h : S ≤ 65535) : bits BinOp.and IntKind.i64 (S : Int) 255 % 256 = ((S % 256 : Nat) : Int) := by
  rw [show (255 : Int) = ((255 : Nat) : Int) from rfl, i64_and_nat S 255 (by omega) (by omega), show (255 : Nat) = 2 ^ 8 - 1 from rfl, Nat.and_two_pow_sub_one_eq_mod]
  omega

theorem sub_u8 (a b : UInt8) : ((a.toNat : Int) - (b.toNat : Int)) % 256 = ((a - b).toNat : Int) := by
  have h1 := a.toNat_lt
  have h2 := b.toNat_lt
  rw [UInt8.toNat_sub]
  omega

/-- Bytes of a block of the call's own, as a text. -/
theorem conv_block (B : ByteArray) (q : Nat) (cs : Array Value) (w : World) (h : w.heap[q]? = some (.cells cs 5 (0, 0))) (hc : cs = ((numsB B).map (Value.int .u8)).toArray) : (convert 106 9 (.slice (some ⟨q, 0, none⟩) B.size B.size)).run Tryz.prog w = .ok (.string B) w := by
  have hcells : ∀ j, j < B.size → w.cell? ⟨q, 0 + j, none⟩ = some (.int .u8 ((numsB B).getD j 0)) := fun j hj => by
    rw [Nat.zero_add, cell_of_row _ _ _ _ _ _ h, hc, List.getElem?_toArray, List.getElem?_map, List.getD_eq_getElem?_getD, List.getElem?_eq_getElem (by rw [numsB_length]; exact hj)]
    rfl
  have hcv := run_convert_bytes_arg (P := Tryz.prog) w 106 5 Tryz.underlying106 Tryz.underlying5 q 0 B.size B.size (numsB B) (numsB_length B) hcells 9 Tryz.underlying9
  rw [strOfNums_numsB] at hcv
  exact hcv

set_option maxRecDepth 100000 in
set_option maxHeartbeats 8000000 in
theorem packet_any (K M O S z i : Nat) (p : ByteArray) (w : World) (hK : K ≤ 20) (hM : M ≤ 20) (hO : O ≤ 20) (hS : S ≤ 65535) (hz : z ≤ 255) (hi : i ≤ 255) (hp : p.size ≤ 1000) :
    Calls Tryz.prog 94 #[specV K M O S, .int .i64 (z : Int), .int .i64 (i : Int), .string p] w fun e w' => e = .returned (.string (packB K M O S z i p)) ∧ Below w.heap.size w w' := by
  have hlow := low_byte S hS
  have hcv := conv_block (headB K M O S z i) (w.heap.size + 1) #[.int .u8 (K : Int), .int .u8 (M : Int), .int .u8 (O : Int), .int .u8 (bits BinOp.and IntKind.i64 (S : Int) 255 % 256), .int .u8 ((S : Int) / 256), .int .u8 (z : Int), .int .u8 (i : Int)] ((w.alloc (.cells #[.int .i64 (K : Int), .int .i64 (M : Int), .int .i64 (O : Int), .int .i64 (S : Int)] 25)).alloc (.cells #[.int .u8 (K : Int), .int .u8 (M : Int), .int .u8 (O : Int), .int .u8 (bits BinOp.and IntKind.i64 (S : Int) 255 % 256), .int .u8 ((S : Int) / 256), .int .u8 (z : Int), .int .u8 (i : Int)] 5)) (heap_alloc2p w _ _) (by rw [numsB_head K M O S z i hK hM hO hS hz hi, hlow]; rfl)
  have hcv' : (convert 106 9 (.slice (some ⟨w.heap.size + 1, 0, none⟩) 7 7)).run Tryz.prog ((w.alloc (.cells #[.int .i64 (K : Int), .int .i64 (M : Int), .int .i64 (O : Int), .int .i64 (S : Int)] 25)).alloc (.cells #[.int .u8 (K : Int), .int .u8 (M : Int), .int .u8 (O : Int), .int .u8 (bits BinOp.and IntKind.i64 (S : Int) 255 % 256), .int .u8 ((S : Int) / 256), .int .u8 (z : Int), .int .u8 (i : Int)] 5)) = .ok (.string (headB K M O S z i)) _ := hcv
  have hts := packT_size K M O S z i p
  have hT : packT K M O S z i p = ⟨#[82]⟩ ++ headB K M O S z i ++ p := rfl
  have hB : packB K M O S z i p = packT K M O S z i p ++ ⟨#[chkTo (packT K M O S z i p) (packT K M O S z i p).size]⟩ := rfl
  rw [hB]
  clear hcv hlow hB
  have hhs : (headB K M O S z i).size = 7 := rfl
  generalize headB K M O S z i = hd at *
  generalize packT K M O S z i p = t at *
  have HT := hide hT
  have htb : t.size ≤ 1008 := by omega
  have Hts := hide hts
  clear hT hts
  go_enter Tryz.func94, Tryz.ntmps94
  go_wp2_with fail
  clear hcv'
  have hbA : Below w.heap.size w ((w.alloc (.cells #[.int .i64 (K : Int), .int .i64 (M : Int), .int .i64 (O : Int), .int .i64 (S : Int)] 25)).alloc (.cells #[.int .u8 (K : Int), .int .u8 (M : Int), .int .u8 (O : Int), .int .u8 (bits BinOp.and IntKind.i64 (S : Int) 255 % 256), .int .u8 ((S : Int) / 256), .int .u8 (z : Int), .int .u8 (i : Int)] 5)) := ((Below.refl _ _).alloc (Nat.le_refl _) _).alloc (by simp) _
  generalize (w.alloc (.cells #[.int .i64 (K : Int), .int .i64 (M : Int), .int .i64 (O : Int), .int .i64 (S : Int)] 25)).alloc (.cells #[.int .u8 (K : Int), .int .u8 (M : Int), .int .u8 (O : Int), .int .u8 (bits BinOp.and IntKind.i64 (S : Int) 255 % 256), .int .u8 ((S : Int) / 256), .int .u8 (z : Int), .int .u8 (i : Int)] 5) = W at *
  rw [← HT.out]
  clear HT
  go_loop [10, 40] (fun sv iv => ∃ k : Nat, k ≤ 8 + p.size ∧ iv = .int .i64 (k : Int) ∧ sv = .int .u8 ((chkTo t k).toNat : Int)) (fun _ iv => 8 + p.size - (intOf iv).toNat)
  case atStart => exact ⟨0, Nat.zero_le _, rfl, rfl⟩
  case round =>
    obtain ⟨k, hk, rfl, rfl⟩ := hrel
    by_cases hlt : k < 8 + p.size
    · have hlt' : k < t.size := by rw [Hts.out]; exact hlt
      have g2 := byteAt_get t k hlt'
      have hsu := sub_u8 (chkTo t k) (byteAt t k)
      have hnx : chkTo t (k + 1) = chkTo t k - byteAt t k := rfl
      have Hnx := hide hnx
      have Hsu := hide hsu
      have i1 : (0 : Int) ≤ (k : Int) := by omega
      have i2 : (k : Int) < (t.size : Int) := by omega
      clear hnx hsu
      go_wp2_with fail
      go_round
      case rel => exact ⟨k + 1, by omega, by go_num, by rw [Hnx.out, ← Hsu.out]⟩
      case measure => simp [intOf]; omega
    · have hkk : k = 8 + p.size := by omega
      subst hkk
      have hcv := conv_block ⟨#[chkTo t (8 + p.size)]⟩ W.heap.size #[.int .u8 ((chkTo t (8 + p.size)).toNat : Int)] (W.alloc (.cells #[.int .u8 ((chkTo t (8 + p.size)).toNat : Int)] 5)) (heap_alloc_new W _) rfl
      have hcv' : (convert 106 9 (.slice (some ⟨W.heap.size, 0, none⟩) 1 1)).run Tryz.prog (W.alloc (.cells #[.int .u8 ((chkTo t (8 + p.size)).toNat : Int)] 5)) = .ok (.string ⟨#[chkTo t (8 + p.size)]⟩) _ := hcv
      have hbf := hbA.alloc hbA.size (.cells #[.int .u8 ((chkTo t (8 + p.size)).toNat : Int)] 5)
      clear hcv
      go_wp2_with fail
      go_ret
      exact ⟨by rw [Hts.out]; rfl, hbf⟩

end Go.Proofs.YtnjaofkieajnlaaGreat
