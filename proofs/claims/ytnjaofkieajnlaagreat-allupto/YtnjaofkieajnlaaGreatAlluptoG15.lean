/- Texts of the proof, part 16. -/
import Derived.Test.YtnjaofkieajnlaaGreatAlluptoG13
import Derived.Test.YtnjaofkieajnlaaGreatAlluptoG14

/- The program's box where it lies within another block: its cells; 'without' there. -/
namespace Go.Proofs.YtnjaofkieajnlaaGreat
open Go.RowKit

/-- The cells of a block that has a box from place o on. -/
def inBox (o : Nat) (hh : Nat → Value) (K n z : Nat) (of : Nat → Nat) (kn : Kn) (i : Nat) : Value := if i < o then hh i else if i < o + 83 then boxCell K n z of kn (i - o) else hh i

/-- Block p, of L cells, has a box from place o on; its other cells are hh's. -/
def BoxOff (w : World) (p o Ln : Nat) (tt : TypeId) (hh : Nat → Value) (K n z : Nat) (of : Nat → Nat) (kn : Kn) : Prop := o + 83 ≤ Ln ∧ w.rowIs p tt Ln (inBox o hh K n z of kn)

theorem inBox_in (o : Nat) (hh : Nat → Value) (K n z : Nat) (of : Nat → Nat) (kn : Kn) (i : Nat) (hi : i < 83) : inBox o hh K n z of kn (o + i) = boxCell K n z of kn i := by
  unfold inBox
  rw [if_neg (by omega), if_pos (by omega), Nat.add_sub_cancel_left]

namespace BoxOff
variable {w w' : World} {p o Ln : Nat} {tt : TypeId} {hh : Nat → Value} {K n z : Nat} {of : Nat → Nat} {kn : Kn}

theorem lt (h : BoxOff w p o Ln tt hh K n z of kn) : p < w.heap.size := World.rowIs.lt h.2

theorem block (h : BoxOff w p o Ln tt hh K n z of kn) (hb : w'.heap[p]? = w.heap[p]?) : BoxOff w' p o Ln tt hh K n z of kn := ⟨h.1, World.rowIs.of_block h.2 hb⟩

theorem on (h : BoxOff w p o Ln tt hh K n z of kn) {m : Nat} (hm : w.heap.size ≤ m) (hb : Below m w w') : BoxOff w' p o Ln tt hh K n z of kn := h.block (hb.block p (Nat.lt_of_lt_of_le h.lt hm))

theorem cell (h : BoxOff w p o Ln tt hh K n z of kn) {i : Nat} (hi : i < 83) : w.cell? ⟨p, o + i, none⟩ = some (boxCell K n z of kn i) := by
  have := World.rowIs.cell h.2 (i := o + i) (by have := h.1; omega)
  rw [inBox_in _ _ _ _ _ _ _ _ hi] at this
  exact this

theorem head (h : BoxOff w p o Ln tt hh K n z of kn) : w.cell? ⟨p, o, none⟩ = some (.int .i64 (K : Int)) ∧ w.cell? ⟨p, o + 1, none⟩ = some (.int .i64 (n : Int)) ∧ w.cell? ⟨p, o + 2, none⟩ = some (.int .i64 (z : Int)) :=
  ⟨h.cell (i := 0) (by omega), h.cell (i := 1) (by omega), h.cell (i := 2) (by omega)⟩

theorem of_ (h : BoxOff w p o Ln tt hh K n z of kn) {i : Nat} (hi : i < 40) : w.cell? ⟨p, o + 3 + i, none⟩ = some (.int .i64 (of i : Int)) := by
  have := h.cell (i := 3 + i) (by omega)
  unfold boxCell at this
  rw [if_neg (by omega), if_neg (by omega), if_neg (by omega), if_pos (by omega), show 3 + i - 3 = i from by omega, ← Nat.add_assoc] at this
  exact this

theorem known (h : BoxOff w p o Ln tt hh K n z of kn) {j : Nat} (hj : j < 20) : w.cell? ⟨p, o + 43 + j * 2, none⟩ = some (.int .i64 ((kn j).1 : Int)) ∧ w.cell? ⟨p, o + 43 + j * 2 + 1, none⟩ = some (.string (kn j).2) := by
  have h1 := h.cell (i := 43 + j * 2) (by omega)
  have h2 := h.cell (i := 43 + j * 2 + 1) (by omega)
  unfold boxCell at h1 h2
  rw [if_neg (by omega), if_neg (by omega), if_neg (by omega), if_neg (by omega), if_pos (by omega), show (43 + j * 2 - 43) / 2 = j from by omega, ← Nat.add_assoc] at h1
  rw [if_neg (by omega), if_neg (by omega), if_neg (by omega), if_neg (by omega), if_neg (by omega), show (43 + j * 2 + 1 - 43) / 2 = j from by omega, ← Nat.add_assoc, ← Nat.add_assoc] at h2
  exact ⟨h1, h2⟩

theorem frozen (h : BoxOff w p o Ln tt hh K n z of kn) (i : Nat) : w.frozen? ⟨p, i, none⟩ = false := World.rowIs.frozen h.2 i

/-- A sum is stored. -/
theorem store (h : BoxOff w p o Ln tt hh K n z of kn) {t : Nat} (f : Fct) (ht : t < 20) : BoxOff ((w.setCell ⟨p, o + 43 + t * 2, none⟩ (.int .i64 (f.1 : Int))).setCell ⟨p, o + 43 + t * 2 + 1, none⟩ (.string f.2)) p o Ln tt hh K n z of (fun j => if j = t then f else kn j) := by
  refine ⟨h.1, ((World.rowIs.set h.2 (o + 43 + t * 2) (.int .i64 (f.1 : Int))).set (o + 43 + t * 2 + 1) (.string f.2)).congr (fun i hi => ?_)⟩
  by_cases e : i = o + 43 + t * 2 + 1
  · subst e
    rw [if_pos rfl, show o + 43 + t * 2 + 1 = o + (43 + t * 2 + 1) from by omega, inBox_in _ _ _ _ _ _ _ _ (by omega)]
    unfold boxCell
    rw [if_neg (by omega), if_neg (by omega), if_neg (by omega), if_neg (by omega), if_neg (by omega), show (43 + t * 2 + 1 - 43) / 2 = t from by omega]; simp only [if_true]
  · rw [if_neg e]
    by_cases e2 : i = o + 43 + t * 2
    · subst e2
      rw [if_pos rfl, show o + 43 + t * 2 = o + (43 + t * 2) from by omega, inBox_in _ _ _ _ _ _ _ _ (by omega)]
      unfold boxCell
      rw [if_neg (by omega), if_neg (by omega), if_neg (by omega), if_neg (by omega), if_pos (by omega), show (43 + t * 2 - 43) / 2 = t from by omega]; simp only [if_true]
    · rw [if_neg e2]
      unfold inBox
      by_cases a : i < o
      · rw [if_pos a, if_pos a]
      · rw [if_neg a, if_neg a]
        by_cases b : i < o + 83
        · rw [if_pos b, if_pos b]
          unfold boxCell
          by_cases e3 : i - o < 43
          · by_cases h0 : i - o = 0
            · rw [if_pos h0, if_pos h0]
            · rw [if_neg h0, if_neg h0]
              by_cases h1 : i - o = 1
              · rw [if_pos h1, if_pos h1]
              · rw [if_neg h1, if_neg h1]
                by_cases h2 : i - o = 2
                · rw [if_pos h2, if_pos h2]
                · rw [if_neg h2, if_neg h2, if_pos e3, if_pos e3]
          · have hne : (i - o - 43) / 2 ≠ t := by omega
            simp only [if_neg hne]
        · rw [if_neg b, if_neg b]

end BoxOff

/-- Where 'without' stands ahead of the known sums below n: the result's block is the first new one. -/
structure QoAt (w wr : World) (p o Ln : Nat) (tt : TypeId) (hh : Nat → Value) (K m z : Nat) (of : Nat → Nat) (kn : Kn) (st : Fct) : Prop where
  box : BoxOff wr p o Ln tt hh K m z of kn
  res : wr.heap[w.heap.size]? = some (.cells #[.int .i64 0, .string ⟨#[]⟩] 82 (0, 0))
  bytes : BytesAt wr (w.heap.size + 1) z (byteAt st.2)
  below : Below w.heap.size w wr

theorem QoAt.on {w wr w' : World} {p o Ln : Nat} {tt : TypeId} {hh : Nat → Value} {K m z : Nat} {of : Nat → Nat} {kn : Kn} {st : Fct} (h : QoAt w wr p o Ln tt hh K m z of kn st) (hb : Below wr.heap.size wr w') : QoAt w w' p o Ln tt hh K m z of kn st := by
  have hl := h.bytes.lt
  exact ⟨h.box.on (Nat.le_refl _) hb, by rw [hb.block _ (by omega)]; exact h.res, h.bytes.on (Nat.le_refl _) hb, h.below.trans (hb.mono (by omega))⟩

/-- .. and within a known sum: it lies in block q; the first k bytes are done. -/
structure QoIn (w wi : World) (p o Ln : Nat) (tt : TypeId) (hh : Nat → Value) (K m z : Nat) (of : Nat → Nat) (kn : Kn) (t : ByteArray) (f : Fct) (q k : Nat) : Prop where
  box : BoxOff wi p o Ln tt hh K m z of kn
  res : wi.heap[w.heap.size]? = some (.cells #[.int .i64 0, .string ⟨#[]⟩] 82 (0, 0))
  known : wi.heap[q]? = some (.cells #[.int .i64 (f.1 : Int), .string f.2] 82 (0, 0))
  bytes : BytesAt wi (w.heap.size + 1) z (halfByte t f.2 k)
  below : Below w.heap.size w wi

theorem QoIn.step {w wi : World} {p o Ln : Nat} {tt : TypeId} {hh : Nat → Value} {K m z : Nat} {of : Nat → Nat} {kn : Kn} {t : ByteArray} {f : Fct} {q k : Nat} (h : QoIn w wi p o Ln tt hh K m z of kn t f q k) (hp : p < w.heap.size) (hq : w.heap.size + 1 < q) (hk : k < z) :
    QoIn w (wi.setCell ⟨w.heap.size + 1, k, none⟩ (.int .u8 (((byteAt t k).toNat ^^^ (byteAt f.2 k).toNat : Nat) : Int))) p o Ln tt hh K m z of kn t f q (k + 1) := by
  refine ⟨h.box.block (heap_setCell_other _ _ _ _ (by show p ≠ w.heap.size + 1; omega)), ?_, ?_, h.bytes.step hk, h.below.setCell (by show w.heap.size ≤ w.heap.size + 1; omega) _⟩
  · rw [heap_setCell_other _ _ _ _ (by show w.heap.size ≠ w.heap.size + 1; omega)]; exact h.res
  · rw [heap_setCell_other _ _ _ _ (by show q ≠ w.heap.size + 1; omega)]; exact h.known

theorem QoIn.drew {w wi : World} {p o Ln : Nat} {tt : TypeId} {hh : Nat → Value} {K m z : Nat} {of : Nat → Nat} {kn : Kn} {t : ByteArray} {f : Fct} {q k : Nat} (h : QoIn w wi p o Ln tt hh K m z of kn t f q k) : QoIn w wi.drew p o Ln tt hh K m z of kn t f q k :=
  ⟨h.box, h.res, h.known, ⟨h.bytes.lt, h.bytes.cell, h.bytes.frozen⟩, h.below.drew⟩

set_option maxRecDepth 100000 in
set_option maxHeartbeats 4000000 in
theorem qwithout_any (p o Ln : Nat) (tt : TypeId) (hh : Nat → Value) (K m z x : Nat) (of : Nat → Nat) (kn : Kn) (t : ByteArray) (w : World) (hK : K ≤ 20) (hkn : KnOk K z kn) (hx : x < 1048576) (ht : t.size = z) (hz : z ≤ 1000) (hbox : BoxOff w p o Ln tt hh K m z of kn) :
    Calls Tryz.prog 86 #[.pointer (some ⟨p, o, none⟩), .int .i64 (x : Int), .string t] w fun e w' => e = .returned (.agg #[.int .i64 ((left kn x t).1 : Int), .string (left kn x t).2]) ∧ Below w.heap.size w w' := by
  obtain ⟨cap, W1, hrun, hcell, hfrz, hbel, hlt⟩ := bytes_run t (w.alloc (.cells #[.int .i64 0, .string ⟨#[]⟩] 82))
  rw [World.size_alloc] at hrun hcell hfrz hbel hlt
  rw [ht] at hrun hcell hfrz
  have hw0 : QoAt w W1 p o Ln tt hh K m z of kn (x, t) := by
    have hb0 : Below w.heap.size w (w.alloc (.cells #[.int .i64 0, .string ⟨#[]⟩] 82)) := (Below.refl _ _).alloc (Nat.le_refl _) _
    have hb1 : Below w.heap.size w W1 := hb0.trans (hbel.mono (by omega))
    exact ⟨hbox.on (Nat.le_refl _) hb1, by rw [hbel.block _ (by omega)]; exact heap_alloc_new w _, ⟨hlt, hcell, hfrz⟩, hb1⟩
  have hpw0 := hbox.lt
  clear hcell hfrz hbel
  go_enter Tryz.func86, Tryz.ntmps86
  go_wp2_with fail
  clear hrun
  go_loopw [1, 8] (fun ov jv wr => ∃ (n : Nat) (st : Fct), n ≤ 20 ∧ jv = .int .i64 ((n : Int) - 1) ∧ ov = .int .i64 (st.1 : Int) ∧ wo kn n st = left kn x t ∧ st.1 < 1048576 ∧ st.2.size = z ∧ QoAt w wr p o Ln tt hh K m z of kn st) (fun _ jv _ => (intOf jv + 1).toNat)
  case atStart => exact ⟨20, (x, t), Nat.le_refl _, rfl, rfl, rfl, hx, ht, hw0⟩
  case round =>
    clear hw0 hbox
    obtain ⟨n, st, hn, rfl, rfl, hwo, hs1, hs2, hat⟩ := hrel
    have Hwo := hide hwo
    clear hwo
    by_cases hn0 : n = 0
    · subst hn0
      have hst : st = left kn x t := Hwo.out
      rw [← hst]
      have hc : ∀ i, i < z → wr.cell? ⟨w.heap.size + 1, 0 + i, none⟩ = some (.int .u8 ((numsB st.2).getD i 0)) := fun i hi => by
        rw [Nat.zero_add, numsB_getD]; exact hat.bytes.cell i hi
      have hcv := run_convert_bytes_arg (P := Tryz.prog) wr 106 5 Tryz.underlying106 Tryz.underlying5 (w.heap.size + 1) 0 z cap (numsB st.2) (by rw [numsB_length]; exact hs2) hc 9 Tryz.underlying9
      rw [strOfNums_numsB] at hcv
      have r0 := (two_cells hat.res).1
      have r1 := (two_cells hat.res).2
      have z0 := two_frozen hat.res 0
      have z1 := two_frozen hat.res 1
      have hres := hat.res
      have hbl := hat.below
      have Hst := hide hst
      clear hc hat hst Hwo
      have hfin : ∀ w', w' = (wr.setCell ⟨w.heap.size, 0, none⟩ (.int .i64 (st.1 : Int))).setCell ⟨w.heap.size, 1, none⟩ (.string st.2) → w'.heap[w.heap.size]? = some (.cells #[.int .i64 (st.1 : Int), .string st.2] 82 (0, 0)) ∧ Below w.heap.size w w' := by
        rintro w' rfl
        have h1 := heap_setCell_same wr w.heap.size 0 _ _ (.int .i64 (st.1 : Int)) hres
        have h2 := heap_setCell_same _ w.heap.size 1 _ _ (.string st.2) h1
        exact ⟨by rw [h2]; rfl, (hbl.setCell (Nat.le_refl _) _).setCell (Nat.le_refl _) _⟩
      clear hres hbl
      go_wp2_with fail
      obtain ⟨hf1, hf2⟩ := hfin _ rfl
      exact bodyPost_ret (v := .agg #[.int .i64 (st.1 : Int), .string st.2]) (results_cell_row Tryz.results86 _ _ w.heap.size 82 _ (0, 0) _ rfl hf1 Tryz.underlying82 rfl Tryz.sizeSum) rfl ⟨by rw [Hst.out], hf2⟩
    · have hj : n - 1 < 20 := by omega
      obtain ⟨c0, c1⟩ := hat.box.known hj
      have hcast : ((n : Int) - 1) = ((n - 1 : Nat) : Int) := by omega
      rw [hcast]
      have hwn : wo kn n st = wo kn (n - 1) (woStep kn (n - 1) st) := by
        obtain ⟨q, rfl⟩ : ∃ q, n = q + 1 := ⟨n - 1, by omega⟩
        rfl
      have Hwn := hide hwn
      have hk1 := hkn.lt hK (n - 1)
      clear hwn hcast
      obtain ⟨b1, b2⟩ := bit_eq st.1 (n - 1) (by omega) (by omega)
      clear b2
      have hz2 : (kn (n - 1)).1 ≠ 0 → (kn (n - 1)).2.size = z := fun h0 => (hkn.log h0).2.2.2.1
      generalize hjn : n - 1 = j at *
      have Hjn := hide hjn
      clear hjn
      have i1 : (0 : Int) ≤ (j : Int) := by omega
      have i2 : (j : Int) < 20 := by omega
      have hp := hat.box.lt
      have hpw : p < w.heap.size := hpw0
      by_cases hb : st.1.testBit j = true
      · rw [hb] at b1
        by_cases hf0 : (kn j).1 = 0
        · have hs : woStep kn j st = st := by unfold woStep; rw [if_neg (fun h => h.2 hf0)]
          have Hs := hide hs
          have f0 : (((kn j).1 : Int) == 0) = true := by rw [hf0]; rfl
          clear hs hf0
          go_wp2_with fail
          go_roundw
          case rel => exact ⟨j, st, by omega, rfl, rfl, by rw [← Hwo.out, Hwn.out, Hs.out], hs1, hs2, hat.on ((Below.refl _ _).alloc (Nat.le_refl _) _)⟩
          case measure => simp [intOf]
        · have hs : woStep kn j st = (st.1 ^^^ (kn j).1, xorB st.2 (kn j).2) := by unfold woStep; rw [if_pos ⟨hb, hf0⟩]
          have Hs := hide hs
          have f0 : (((kn j).1 : Int) == 0) = false := by simpa using hf0
          have hzk := hz2 hf0
          have hxx := i64_xor_nat st.1 (kn j).1 (by omega) (by omega)
          have Hxx := hide hxx
          have hlt2 : st.1 ^^^ (kn j).1 < 2 ^ 20 := Nat.xor_lt_two_pow (by omega) (by omega)
          have hin : QoIn w (wr.alloc (.cells #[.int .i64 ((kn j).1 : Int), .string (kn j).2] 82)) p o Ln tt hh K m z of kn st.2 (kn j) wr.heap.size 0 := by
            have h := hat.on ((Below.refl wr.heap.size wr).alloc (Nat.le_refl _) (.cells #[.int .i64 ((kn j).1 : Int), .string (kn j).2] 82))
            exact ⟨h.box, h.res, heap_alloc_new wr _, h.bytes.congr (fun i _ => by rw [halfByte_zero]), h.below⟩
          have hql := hat.bytes.lt
          clear hs hf0 hxx hz2 hat
          generalize kn j = f at *
          generalize hq : wr.heap.size = q at *
          go_wp2_with fail
          go_loopw [10] (fun kv wi => ∃ k : Nat, k ≤ z ∧ kv = .int .i64 (k : Int) ∧ QoIn w wi p o Ln tt hh K m z of kn st.2 f q k) (fun kv _ => z - (intOf kv).toNat)
          case atStart => exact ⟨0, Nat.zero_le _, rfl, hin⟩
          case round =>
            clear hin
            obtain ⟨k, hk, rfl, hin⟩ := hrel
            obtain ⟨e0, e1⟩ := two_cells hin.known
            by_cases hkz : k < z
            · have hcell := hin.bytes.cell k hkz
              have hfrz := hin.bytes.frozen k hkz
              rw [halfByte_here] at hcell
              have hpn : k < f.2.size := by omega
              have g2 := byteAt_get f.2 k hpn
              have hx8 := u8_xor_nat (byteAt st.2 k).toNat (byteAt f.2 k).toNat (byteAt st.2 k).toNat_lt (byteAt f.2 k).toNat_lt
              have hnext := (hin.step hpw (by omega) hkz).drew
              have i3 : (0 : Int) ≤ (k : Int) := by omega
              have i4 : (k : Int) < (z : Int) := by omega
              have i5 : (k : Int) < (f.2.size : Int) := by omega
              clear hin
              go_wp2_with fail
              go_region
              all_goals
                clear hcell hfrz g2 hx8 e0 e1
                go_wp2
                go_roundw
                case rel => exact ⟨k + 1, by omega, by go_num, hnext⟩
                case measure => simp [intOf]; omega
            · have hkk : k = z := by omega
              subst hkk
              have hbytes : BytesAt wr (w.heap.size + 1) k (byteAt (xorB st.2 f.2)) := hin.bytes.congr (fun i hi => by
                have := halfByte_all st.2 f.2 (by omega) i (by omega)
                rw [hs2] at this
                exact this)
              have hnext : QoAt w wr p o Ln tt hh K m k of kn (st.1 ^^^ f.1, xorB st.2 f.2) := ⟨hin.box, hin.res, hbytes, hin.below⟩
              clear hin hbytes
              go_wp2_with fail
              go_roundw
              case rel => exact ⟨j, (st.1 ^^^ f.1, xorB st.2 f.2), by omega, rfl, by rw [Hxx.out], by rw [← Hwo.out, Hwn.out, Hs.out], by show st.1 ^^^ f.1 < _; omega, by rw [xorB_size (by omega)]; exact hs2, hnext⟩
              case measure => simp [intOf]
      · have hb' : st.1.testBit j = false := by simpa using hb
        rw [hb'] at b1
        have hs : woStep kn j st = st := by unfold woStep; rw [if_neg (fun h => hb h.1)]
        have Hs := hide hs
        clear hs
        go_wp2_with fail
        go_roundw
        case rel => exact ⟨j, st, by omega, rfl, rfl, by rw [← Hwo.out, Hwn.out, Hs.out], hs1, hs2, hat.on ((Below.refl _ _).alloc (Nat.le_refl _) _)⟩
        case measure => simp [intOf]

end Go.Proofs.YtnjaofkieajnlaaGreat

/- The program's Get, Put and Need of a box within another block. -/
namespace Go.Proofs.YtnjaofkieajnlaaGreat
open Go.RowKit

/-- The box in a world that only new blocks part from w. -/
structure QBoxIn (w w' : World) (p o Ln : Nat) (tt : TypeId) (hh : Nat → Value) (K n z : Nat) (of : Nat → Nat) (kn : Kn) : Prop where
  box : BoxOff w' p o Ln tt hh K n z of kn
  below : Below w.heap.size w w'

namespace QBoxIn
variable {w w' w2 : World} {p o Ln : Nat} {tt : TypeId} {hh : Nat → Value} {K n z : Nat} {of : Nat → Nat} {kn : Kn}

theorem on (h : QBoxIn w w' p o Ln tt hh K n z of kn) (hb : Below w'.heap.size w' w2) : QBoxIn w w2 p o Ln tt hh K n z of kn := ⟨h.box.on (Nat.le_refl _) hb, h.below.trans (hb.mono h.below.size)⟩

theorem alloc (h : QBoxIn w w' p o Ln tt hh K n z of kn) (ob : Obj) : QBoxIn w (w'.alloc ob) p o Ln tt hh K n z of kn := h.on ((Below.refl _ _).alloc (Nat.le_refl _) ob)

theorem drew (h : QBoxIn w w' p o Ln tt hh K n z of kn) : QBoxIn w w'.drew p o Ln tt hh K n z of kn := ⟨h.box, h.below.drew⟩

theorem setCell (h : QBoxIn w w' p o Ln tt hh K n z of kn) (hp : p < w.heap.size) {a : Addr} (ha : w.heap.size ≤ a.block) (v : Value) : QBoxIn w (w'.setCell a v) p o Ln tt hh K n z of kn :=
  ⟨h.box.block (heap_setCell_other _ _ _ _ (by omega)), h.below.setCell ha v⟩

/-- What Get reads of it. -/
theorem all (h : QBoxIn w w' p o Ln tt hh K n z of kn) {i : Nat} (hi : i < 40) : w'.cell? ⟨p, o + 3 + i, none⟩ = some (.int .i64 (of i : Int)) ∧ w'.cell? ⟨p, o + 2, none⟩ = some (.int .i64 (z : Int)) ∧ QBoxIn w w' p o Ln tt hh K n z of kn :=
  ⟨h.box.of_ hi, h.box.head.2.2, h⟩

end QBoxIn

set_option maxRecDepth 100000 in
set_option maxHeartbeats 4000000 in
theorem qget_arg (p o Ln : Nat) (tt : TypeId) (hh : Nat → Value) (K n z : Nat) (i : Int) (of : Nat → Nat) (kn : Kn) (w : World) (hi : i < 0 ∨ (n : Int) ≤ i) (hbox : BoxOff w p o Ln tt hh K n z of kn) :
    Calls Tryz.prog 55 #[.pointer (some ⟨p, o, none⟩), .int .i64 i] w fun e w' => e = .returned (.tuple #[.string ⟨#[]⟩, .int .i64 2]) ∧ w' = w := by
  obtain ⟨h0, h1, h2⟩ := hbox.head
  go_enter Tryz.func55, Tryz.ntmps55
  rcases hi with hi | hi
  · go_wp2_with fail
    go_ret2
    exact ⟨rfl, rfl⟩
  · by_cases h0 : i < 0
    · go_wp2_with fail
      go_ret2
      exact ⟨rfl, rfl⟩
    · go_wp2_with fail
      go_ret2
      exact ⟨rfl, rfl⟩

set_option maxRecDepth 100000 in
set_option maxHeartbeats 4000000 in
theorem qget_ok (p o Ln : Nat) (tt : TypeId) (hh : Nat → Value) (K n z i : Nat) (of : Nat → Nat) (kn : Kn) (w : World) (hK : K ≤ 20) (hkn : KnOk K z kn) (hof : ∀ i, of i < 2 ^ K) (hz : z ≤ 1000) (hn : n ≤ 40) (hi : i < n) (hbox : BoxOff w p o Ln tt hh K n z of kn) :
    Calls Tryz.prog 55 #[.pointer (some ⟨p, o, none⟩), .int .i64 (i : Int)] w fun e w' => e = .returned (.tuple (if (left kn (of i) (zeroB z)).1 = 0 then #[.string (left kn (of i) (zeroB z)).2, .int .i64 0] else #[.string ⟨#[]⟩, .int .i64 5])) ∧ Below w.heap.size w w' := by
  obtain ⟨h0, h1, h2⟩ := hbox.head
  have hp := hbox.lt
  have hin : QBoxIn w w p o Ln tt hh K n z of kn := ⟨hbox, Below.refl _ _⟩
  have hx : of i < 1048576 := Nat.lt_of_lt_of_le (hof i) (Nat.le_trans (Nat.pow_le_pow_right (by omega) hK) (by decide))
  have hoi := hbox.of_ (i := i) (by omega)
  have hi40 : i < 40 := by omega
  have i1 : (0 : Int) ≤ (i : Int) := by omega
  have i2 : (i : Int) < (n : Int) := by omega
  have i3 : (i : Int) < 40 := by omega
  have hlz : (left kn (of i) (zeroB z)).1 < 1048576 := (left_ok hkn (of i) (zeroB z) (zeroB_size z)).low 20 hK (by omega)
  go_enter Tryz.func55, Tryz.ntmps55
  go_wp2_with fail
  go_region_held3 (fun w' => w'.cell? ⟨p, o + 3 + i, none⟩ = some (.int .i64 (of i : Int)) ∧ w'.cell? ⟨p, o + 2, none⟩ = some (.int .i64 (z : Int)) ∧ QBoxIn w w' p o Ln tt hh K n z of kn)
    (first | (exact QBoxIn.all hin hi40) | (exact QBoxIn.all hin.drew hi40) | (exact QBoxIn.all hs2 hi40) | (exact QBoxIn.all hs1 hi40) | (exact QBoxIn.all (QBoxIn.alloc (by go_split_ands; assumption) _) hi40) | (exact QBoxIn.all (QBoxIn.setCell (QBoxIn.setCell (by go_split_ands; assumption) hp (by first | omega | (dsimp only; omega) | (simp; omega)) _) hp (by first | omega | (dsimp only; omega) | (simp; omega)) _) hi40) | go_keep)
    (first
      | (go_at_call 88; refine (bnoughts_any z _ hz).mono ?_; rintro e w1 ⟨rfl, hb1⟩; obtain ⟨k1, k2⟩ := bcell hb1; have hs1 : QBoxIn w w1 p o Ln tt hh K n z of kn := QBoxIn.on (by go_split_ands; assumption) hb1; have hz1 := hs1.below.size; (try (have y1 : w.heap.size < w1.heap.size := by have := hb1.size; simp at this; omega)))
      | (go_at_call 86; refine (qwithout_any p o Ln tt hh K n z (of i) of kn (zeroB z) _ hK hkn hx (zeroB_size z) hz ?_).mono ?_; (go_split_ands; exact QBoxIn.box (by assumption)); rintro e w2 ⟨rfl, hb2⟩; obtain ⟨m1, m2⟩ := bcell hb2; have hs2 : QBoxIn w w2 p o Ln tt hh K n z of kn := QBoxIn.on (by go_split_ands; assumption) hb2; have hz2 := hs2.below.size))
  all_goals
    by_cases h0 : (left kn (of i) (zeroB z)).1 = 0
    · have hne : (((left kn (of i) (zeroB z)).1 : Int) != 0) = false := by simp [bne]; exact h0
      have HE := hide h0
      clear h0
      go_wp2_with fail
      go_ret2
      exact ⟨by first | rfl | (rw [if_pos HE.out]; rfl), by first | exact (hs2.alloc _).below | exact ((hs2.setCell hp (by first | omega | (dsimp only; omega)) _).setCell hp (by first | omega | (dsimp only; omega)) _).below⟩
    · have hne : (((left kn (of i) (zeroB z)).1 : Int) != 0) = true := by simp [bne]; exact h0
      have HE := hide h0
      clear h0
      go_wp2_with fail
      go_ret2
      exact ⟨by first | rfl | (rw [if_neg HE.out]; rfl), by first | exact (hs2.alloc _).below | exact ((hs2.setCell hp (by first | omega | (dsimp only; omega)) _).setCell hp (by first | omega | (dsimp only; omega)) _).below⟩

set_option maxRecDepth 100000 in
set_option maxHeartbeats 4000000 in
theorem qneed_any (p o Ln : Nat) (tt : TypeId) (hh : Nat → Value) (K n z : Nat) (of : Nat → Nat) (kn : Kn) (w : World) (hK : K ≤ 20) (hbox : BoxOff w p o Ln tt hh K n z of kn) :
    Calls Tryz.prog 53 #[.pointer (some ⟨p, o, none⟩)] w fun e w' => e = .returned (.int .i64 (openK kn K : Int)) ∧ w' = w := by
  obtain ⟨h0, h1, h2⟩ := hbox.head
  have hp := hbox.lt
  go_enter Tryz.func53, Tryz.ntmps53
  go_wp2_with fail
  go_loop [3, 4] (fun nv jv => ∃ j : Nat, j ≤ K ∧ jv = .int .i64 (j : Int) ∧ nv = .int .i64 (openK kn j : Int)) (fun _ jv => K - (intOf jv).toNat)
  case atStart => exact ⟨0, Nat.zero_le _, rfl, rfl⟩
  case round =>
    obtain ⟨j, hj, rfl, rfl⟩ := hrel
    have hle := openK_le kn j
    by_cases hlt : j < K
    · obtain ⟨c0, _⟩ := hbox.known (j := j) (by omega)
      have i1 : (0 : Int) ≤ (j : Int) := by omega
      have i2 : (j : Int) < 20 := by omega
      have hs := openK_succ kn j
      by_cases hz : (kn j).1 = 0
      · rw [if_pos hz] at hs
        have Hs := hide hs
        have b0 : (((kn j).1 : Int) == 0) = true := by rw [hz]; rfl
        clear hs hz
        go_wp2_with fail
        go_round
        case rel => exact ⟨j + 1, by omega, by go_num, by rw [Hs.out]; go_num⟩
        case measure => simp [intOf]; omega
      · rw [if_neg hz, Nat.add_zero] at hs
        have Hs := hide hs
        have b0 : (((kn j).1 : Int) == 0) = false := by simpa using hz
        clear hs
        go_wp2_with fail
        go_round
        case rel => exact ⟨j + 1, by omega, by go_num, by rw [Hs.out]; rfl⟩
        case measure => simp [intOf]; omega
    · have hjK : j = K := by omega
      subst hjK
      go_wp2_with fail
      go_ret
      exact ⟨rfl, rfl⟩

set_option maxRecDepth 100000 in
set_option maxHeartbeats 4000000 in
theorem qput_arg (p o Ln : Nat) (tt : TypeId) (hh : Nat → Value) (K n z : Nat) (i : Int) (t : ByteArray) (of : Nat → Nat) (kn : Kn) (w : World) (hi : i < 0 ∨ (n : Int) ≤ i) (hbox : BoxOff w p o Ln tt hh K n z of kn) :
    Calls Tryz.prog 52 #[.pointer (some ⟨p, o, none⟩), .int .i64 i, .string t] w fun e w' => e = .returned (.int .i64 2) ∧ w' = w := by
  obtain ⟨h0, h1, h2⟩ := hbox.head
  go_enter Tryz.func52, Tryz.ntmps52
  rcases hi with hi | hi
  · go_wp2_with fail
    go_ret
    exact ⟨rfl, rfl⟩
  · by_cases h0 : i < 0
    · go_wp2_with fail
      go_ret
      exact ⟨rfl, rfl⟩
    · go_wp2_with fail
      go_ret
      exact ⟨rfl, rfl⟩

set_option maxRecDepth 100000 in
set_option maxHeartbeats 4000000 in
theorem qput_shape (p o Ln : Nat) (tt : TypeId) (hh : Nat → Value) (K n z i : Nat) (t : ByteArray) (of : Nat → Nat) (kn : Kn) (w : World) (hi : i < n) (ht : t.size ≠ z) (hbox : BoxOff w p o Ln tt hh K n z of kn) :
    Calls Tryz.prog 52 #[.pointer (some ⟨p, o, none⟩), .int .i64 (i : Int), .string t] w fun e w' => e = .returned (.int .i64 3) ∧ w' = w := by
  obtain ⟨h0, h1, h2⟩ := hbox.head
  have i1 : ¬ (i : Int) < 0 := by omega
  have i2 : ¬ (n : Int) ≤ (i : Int) := by omega
  have hb : ((t.size : Int) != (z : Int)) = true := by simp; omega
  go_enter Tryz.func52, Tryz.ntmps52
  go_wp2_with fail
  go_ret
  exact ⟨rfl, rfl⟩

set_option maxRecDepth 100000 in
set_option maxHeartbeats 4000000 in
theorem qput_ok (p o Ln : Nat) (tt : TypeId) (hh : Nat → Value) (K n z i : Nat) (t : ByteArray) (of : Nat → Nat) (kn : Kn) (w : World) (hK : K ≤ 20) (hkn : KnOk K z kn) (hof : ∀ i, of i < 2 ^ K) (hz : z ≤ 1000) (hn : n ≤ 40) (hi : i < n) (ht : t.size = z) (hbox : BoxOff w p o Ln tt hh K n z of kn) :
    Calls Tryz.prog 52 #[.pointer (some ⟨p, o, none⟩), .int .i64 (i : Int), .string t] w fun e w' => e = .returned (.int .i64 (putE (left kn (of i) t) z)) ∧ BoxOff w' p o Ln tt hh K n z of (putK kn (of i) t) ∧ Chg (fun k => k = p) w w' := by
  obtain ⟨h0, h1, h2⟩ := hbox.head
  have hp := hbox.lt
  have hx : of i < 1048576 := Nat.lt_of_lt_of_le (hof i) (Nat.le_trans (Nat.pow_le_pow_right (by omega) hK) (by decide))
  have hoi := hbox.of_ (i := i) (by omega)
  have i0 : ¬ (i : Int) < 0 := by omega
  have i1 : (0 : Int) ≤ (i : Int) := by omega
  have i2 : ¬ (n : Int) ≤ (i : Int) := by omega
  have i3 : (i : Int) < 40 := by omega
  have hb : ((t.size : Int) != (z : Int)) = false := by simp; omega
  have hlz : (left kn (of i) t).1 < 1048576 := (left_ok hkn (of i) t ht).low 20 hK (by omega)
  have hls := (left_ok hkn (of i) t ht).size
  have hput : putK kn (of i) t = if (left kn (of i) t).1 = 0 then kn else fun j => if j = (left kn (of i) t).1.log2 then left kn (of i) t else kn j := rfl
  have hwo := qwithout_any p o Ln tt hh K n z (of i) of kn t
  rw [hput]
  clear hput
  generalize left kn (of i) t = L at *
  go_enter Tryz.func52, Tryz.ntmps52
  go_wp2_with fail
  refine (hwo _ hK hkn hx ht hz hbox).mono ?_
  rintro e w1 ⟨rfl, hb1⟩
  clear hwo
  have hbox1 := hbox.on (Nat.le_refl _) hb1
  have hp1 := hbox1.lt
  have hsz1 := hb1.size
  obtain ⟨g0, g1, g2⟩ := hbox1.head
  have hboxA : BoxOff (w1.alloc (.cells #[.int .i64 (L.1 : Int), .string L.2] 82)) p o Ln tt hh K n z of kn := hbox1.block (heap_alloc_old _ _ hp1)
  have hbA : Below w.heap.size w (w1.alloc (.cells #[.int .i64 (L.1 : Int), .string L.2] 82)) := hb1.alloc hb1.size _
  by_cases hf0 : L.1 = 0
  · have hne : ((L.1 : Int) != 0) = false := by simp [bne]; exact hf0
    have HE := hide hf0
    clear hf0 g0 g1 h0 h1 h2 hoi
    have hc1 : (w1.alloc (.cells #[.int .i64 (L.1 : Int), .string L.2] 82)).cell? ⟨w1.heap.size, 1, none⟩ = some (.string L.2) := by
      rw [cell_of_row _ _ _ _ _ _ (heap_alloc_new w1 _)]; rfl
    have hc2 := hboxA.head.2.2
    by_cases hzz : L.2 = zeroB z
    · have hpe : putE L z = 0 := by unfold putE; rw [if_neg (fun h => h.2 hzz)]
      have hbb : (L.2.toList == (zeroB z).toList) = true := by rw [hzz]; simp
      have HP := hide hpe
      clear hpe hzz
      go_wp2_with fail
      go_region_held3 (fun w' => w'.cell? ⟨w1.heap.size, 1, none⟩ = some (.string L.2) ∧ w'.cell? ⟨p, o + 2, none⟩ = some (.int .i64 (z : Int)))
        (first | (exact ⟨hc1, hc2⟩) | (exact ⟨j0, j1⟩) | go_keep)
        (first
          | (go_at_call 88; refine (bnoughts_any z _ hz).mono ?_; rintro e w2 ⟨rfl, hb2⟩; have j0 := (hb2.cell (p := ⟨w1.heap.size, 1, none⟩) (by simp)).trans hc1; have j1 := (hb2.cell (p := ⟨p, o + 2, none⟩) (by simp; omega)).trans hc2))
      all_goals
        have hbx := hboxA.block (w' := w2) (hb2.block p (by simp; omega))
        have hbf : Below w.heap.size w w2 := hbA.drew.trans (Below.mono hb2 hbA.size)
        have hcg := Chg.of_below hbf (fun k => k = p)
        clear hb2 hbA hboxA hbox1 hb1 j0 j1 hc1 hc2 g2
        go_wp2_with fail
        go_ret
        exact ⟨by rw [HP.out]; rfl, by first | (rw [if_pos HE.out]; exact hbx) | exact hbx, hcg⟩
    · have hpe : putE L z = 4 := by unfold putE; rw [if_pos ⟨HE.out, hzz⟩]
      have hbb := beq_bytes hzz
      have HP := hide hpe
      clear hpe hzz
      go_wp2_with fail
      go_region_held3 (fun w' => w'.cell? ⟨w1.heap.size, 1, none⟩ = some (.string L.2) ∧ w'.cell? ⟨p, o + 2, none⟩ = some (.int .i64 (z : Int)))
        (first | (exact ⟨hc1, hc2⟩) | (exact ⟨j0, j1⟩) | go_keep)
        (first
          | (go_at_call 88; refine (bnoughts_any z _ hz).mono ?_; rintro e w2 ⟨rfl, hb2⟩; have j0 := (hb2.cell (p := ⟨w1.heap.size, 1, none⟩) (by simp)).trans hc1; have j1 := (hb2.cell (p := ⟨p, o + 2, none⟩) (by simp; omega)).trans hc2))
      all_goals
        have hbx := hboxA.block (w' := w2) (hb2.block p (by simp; omega))
        have hbf : Below w.heap.size w w2 := hbA.drew.trans (Below.mono hb2 hbA.size)
        have hcg := Chg.of_below hbf (fun k => k = p)
        clear hb2 hbA hboxA hbox1 hb1 j0 j1 hc1 hc2 g2
        go_wp2_with fail
        go_ret
        exact ⟨by rw [HP.out]; rfl, by first | (rw [if_pos HE.out]; exact hbx) | exact hbx, hcg⟩
  · have hne : ((L.1 : Int) != 0) = true := by simp [bne]; exact hf0
    have HE := hide hf0
    have hhi := highest_any L.1
    have ht20 : L.1.log2 < 20 := (Nat.log2_lt hf0).2 hlz
    have hpe : putE L z = 0 := by unfold putE; rw [if_neg (fun h => hf0 h.1)]
    have HP := hide hpe
    obtain ⟨q0, q1⟩ := hbox1.known ht20
    have f0 := hbox1.frozen (o + 43 + L.1.log2 * 2)
    have f1 := hbox1.frozen (o + 43 + L.1.log2 * 2 + 1)
    have hst := hbox1.store (t := L.1.log2) L ht20
    have hst2 := hst.block (heap_alloc_old _ (.cells #[.int .i64 (L.1 : Int), .string L.2] 82) hst.lt)
    have hcg := ((((Chg.of_below hb1 (fun k => k = p)).setCell (a := ⟨p, o + 43 + L.1.log2 * 2, none⟩) (Or.inr rfl) (.int .i64 (L.1 : Int))).setCell (a := ⟨p, o + 43 + L.1.log2 * 2 + 1, none⟩) (Or.inr rfl) (.string L.2)).alloc (.cells #[.int .i64 (L.1 : Int), .string L.2] 82)).drew
    clear hst
    clear hpe g0 g1 h0 h1 h2 hoi
    go_wp2_with fail
    refine (hhi _ hlz hf0).mono ?_
    rintro e w2 ⟨rfl, rfl⟩
    have t1 : (0 : Int) ≤ (L.1.log2 : Int) := by omega
    have t2 : (L.1.log2 : Int) < 20 := by omega
    clear hhi hlz hf0
    go_wp2_with fail
    go_region
    all_goals
      clear q0 q1 f0 f1
      go_wp2_with fail
      go_ret
      exact ⟨by rw [HP.out]; rfl, by first | (rw [if_neg HE.out]; exact hst2) | exact hst2, hcg⟩

end Go.Proofs.YtnjaofkieajnlaaGreat
