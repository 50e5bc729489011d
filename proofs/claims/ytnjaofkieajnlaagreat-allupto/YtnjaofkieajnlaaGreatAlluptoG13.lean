/- Texts of the proof, part 14. -/
import Derived.Deep.RegionHeld3
import Derived.Laws.ResultCell
import Derived.Test.YtnjaofkieajnlaaGreatAlluptoG12
import Derived.Test.YtnjaofkieajnlaaGreatAlluptoG6

/- The program's 'without': what is left of a piece when the known sums are taken away. -/
namespace Go.Proofs.YtnjaofkieajnlaaGreat
open Go.RowKit

theorem Tryz.infoSum : (Tryz.prog.info? 82).map (fun i => (i.zero, i.size, i.bytes)) = some (some (.agg #[.int .i64 0, .string ByteArray.empty]), 2, 24) := by kernel_rfl

theorem Tryz.sizeSum : (Tryz.prog.info? 82).map (·.size) = some 2 := by kernel_rfl

/-- Where 'without' stands ahead of the known sums below n: the result's block is the first new one. -/
structure WoAt (w wr : World) (p K m z : Nat) (of : Nat → Nat) (kn : Kn) (st : Fct) : Prop where
  box : BoxAt wr p K m z of kn
  res : wr.heap[w.heap.size]? = some (.cells #[.int .i64 0, .string ⟨#[]⟩] 82 (0, 0))
  bytes : BytesAt wr (w.heap.size + 1) z (byteAt st.2)
  below : Below w.heap.size w wr

theorem two_cells {w : World} {q : Nat} {a b : Value} {t : TypeId} (h : w.heap[q]? = some (.cells #[a, b] t (0, 0))) : w.cell? ⟨q, 0, none⟩ = some a ∧ w.cell? ⟨q, 1, none⟩ = some b :=
  ⟨by rw [cell_of_row _ _ _ _ _ _ h]; rfl, by rw [cell_of_row _ _ _ _ _ _ h]; rfl⟩

theorem two_frozen {w : World} {q : Nat} {cs : Array Value} {t : TypeId} (h : w.heap[q]? = some (.cells cs t (0, 0))) (i : Nat) : w.frozen? ⟨q, i, none⟩ = false := by
  simp [World.frozen?, h]

theorem WoAt.on {w wr w' : World} {p K m z : Nat} {of : Nat → Nat} {kn : Kn} {st : Fct} (h : WoAt w wr p K m z of kn st) (hb : Below wr.heap.size wr w') : WoAt w w' p K m z of kn st := by
  have hl := h.bytes.lt
  exact ⟨h.box.on (Nat.le_refl _) hb, by rw [hb.block _ (by omega)]; exact h.res, h.bytes.on (Nat.le_refl _) hb, h.below.trans (hb.mono (by omega))⟩

/-- .. and within a known sum: it lies in block q; the first k bytes are done. -/
structure WoIn (w wi : World) (p K m z : Nat) (of : Nat → Nat) (kn : Kn) (t : ByteArray) (f : Fct) (q k : Nat) : Prop where
  box : BoxAt wi p K m z of kn
  res : wi.heap[w.heap.size]? = some (.cells #[.int .i64 0, .string ⟨#[]⟩] 82 (0, 0))
  known : wi.heap[q]? = some (.cells #[.int .i64 (f.1 : Int), .string f.2] 82 (0, 0))
  bytes : BytesAt wi (w.heap.size + 1) z (halfByte t f.2 k)
  below : Below w.heap.size w wi

theorem WoIn.step {w wi : World} {p K m z : Nat} {of : Nat → Nat} {kn : Kn} {t : ByteArray} {f : Fct} {q k : Nat} (h : WoIn w wi p K m z of kn t f q k) (hp : p < w.heap.size) (hq : w.heap.size + 1 < q) (hk : k < z) :
    WoIn w (wi.setCell ⟨w.heap.size + 1, k, none⟩ (.int .u8 (((byteAt t k).toNat ^^^ (byteAt f.2 k).toNat : Nat) : Int))) p K m z of kn t f q (k + 1) := by
  refine ⟨h.box.block (heap_setCell_other _ _ _ _ (by show p ≠ w.heap.size + 1; omega)), ?_, ?_, h.bytes.step hk, h.below.setCell (by show w.heap.size ≤ w.heap.size + 1; omega) _⟩
  · rw [heap_setCell_other _ _ _ _ (by show w.heap.size ≠ w.heap.size + 1; omega)]; exact h.res
  · rw [heap_setCell_other _ _ _ _ (by show q ≠ w.heap.size + 1; omega)]; exact h.known

theorem WoIn.drew {w wi : World} {p K m z : Nat} {of : Nat → Nat} {kn : Kn} {t : ByteArray} {f : Fct} {q k : Nat} (h : WoIn w wi p K m z of kn t f q k) : WoIn w wi.drew p K m z of kn t f q k :=
  ⟨h.box, h.res, h.known, ⟨h.bytes.lt, h.bytes.cell, h.bytes.frozen⟩, h.below.drew⟩

set_option maxRecDepth 100000 in
set_option maxHeartbeats 4000000 in
theorem without_any (p K m z x : Nat) (of : Nat → Nat) (kn : Kn) (t : ByteArray) (w : World) (hK : K ≤ 20) (hkn : KnOk K z kn) (hx : x < 1048576) (ht : t.size = z) (hz : z ≤ 1000) (hbox : BoxAt w p K m z of kn) :
    Calls Tryz.prog 86 #[.pointer (some ⟨p, 0, none⟩), .int .i64 (x : Int), .string t] w fun e w' => e = .returned (.agg #[.int .i64 ((left kn x t).1 : Int), .string (left kn x t).2]) ∧ Below w.heap.size w w' := by
  obtain ⟨cap, W1, hrun, hcell, hfrz, hbel, hlt⟩ := bytes_run t (w.alloc (.cells #[.int .i64 0, .string ⟨#[]⟩] 82))
  rw [World.size_alloc] at hrun hcell hfrz hbel hlt
  rw [ht] at hrun hcell hfrz
  have hw0 : WoAt w W1 p K m z of kn (x, t) := by
    have hb0 : Below w.heap.size w (w.alloc (.cells #[.int .i64 0, .string ⟨#[]⟩] 82)) := (Below.refl _ _).alloc (Nat.le_refl _) _
    have hb1 : Below w.heap.size w W1 := hb0.trans (hbel.mono (by omega))
    exact ⟨hbox.on (Nat.le_refl _) hb1, by rw [hbel.block _ (by omega)]; exact heap_alloc_new w _, ⟨hlt, hcell, hfrz⟩, hb1⟩
  have hpw0 := hbox.lt
  clear hcell hfrz hbel
  go_enter Tryz.func86, Tryz.ntmps86
  go_wp2_with fail
  clear hrun
  go_loopw [1, 8] (fun ov jv wr => ∃ (n : Nat) (st : Fct), n ≤ 20 ∧ jv = .int .i64 ((n : Int) - 1) ∧ ov = .int .i64 (st.1 : Int) ∧ wo kn n st = left kn x t ∧ st.1 < 1048576 ∧ st.2.size = z ∧ WoAt w wr p K m z of kn st) (fun _ jv _ => (intOf jv + 1).toNat)
  case atStart => exact ⟨20, (x, t), Nat.le_refl _, rfl, rfl, rfl, hx, ht, hw0⟩
  case round =>
    clear hw0 hbox
    obtain ⟨n, st, hn, rfl, rfl, hwo, hs1, hs2, hat⟩ := hrel
    have Hwo := hide hwo
    clear hwo
    by_cases hn0 : n = 0
    · subst hn0
      have hst : st = left kn x t := Hwo.out
      rw [← hst]
      have hc : ∀ i, i < z → wr.cell? ⟨w.heap.size + 1, 0 + i, none⟩ = some (.int .u8 ((numsB st.2).getD i 0)) := fun i hi => by
        rw [Nat.zero_add, numsB_getD]; exact hat.bytes.cell i hi
      have hcv := run_convert_bytes_arg (P := Tryz.prog) wr 106 5 Tryz.underlying106 Tryz.underlying5 (w.heap.size + 1) 0 z cap (numsB st.2) (by rw [numsB_length]; exact hs2) hc 9 Tryz.underlying9
      rw [strOfNums_numsB] at hcv
      have r0 := (two_cells hat.res).1
      have r1 := (two_cells hat.res).2
      have z0 := two_frozen hat.res 0
      have z1 := two_frozen hat.res 1
      have hres := hat.res
      have hbl := hat.below
      have Hst := hide hst
      clear hc hat hst Hwo
      have hfin : ∀ w', w' = (wr.setCell ⟨w.heap.size, 0, none⟩ (.int .i64 (st.1 : Int))).setCell ⟨w.heap.size, 1, none⟩ (.string st.2) → w'.heap[w.heap.size]? = some (.cells #[.int .i64 (st.1 : Int), .string st.2] 82 (0, 0)) ∧ Below w.heap.size w w' := by
        rintro w' rfl
        have h1 := heap_setCell_same wr w.heap.size 0 _ _ (.int .i64 (st.1 : Int)) hres
        have h2 := heap_setCell_same _ w.heap.size 1 _ _ (.string st.2) h1
        exact ⟨by rw [h2]; rfl, (hbl.setCell (Nat.le_refl _) _).setCell (Nat.le_refl _) _⟩
      clear hres hbl
      go_wp2_with fail
      obtain ⟨hf1, hf2⟩ := hfin _ rfl
      exact bodyPost_ret (v := .agg #[.int .i64 (st.1 : Int), .string st.2]) (results_cell_row Tryz.results86 _ _ w.heap.size 82 _ (0, 0) _ rfl hf1 Tryz.underlying82 rfl Tryz.sizeSum) rfl ⟨by rw [Hst.out], hf2⟩
    · have hj : n - 1 < 20 := by omega
      obtain ⟨c0, c1⟩ := hat.box.known hj
      have hcast : ((n : Int) - 1) = ((n - 1 : Nat) : Int) := by omega
      rw [hcast]
      have hwn : wo kn n st = wo kn (n - 1) (woStep kn (n - 1) st) := by
        obtain ⟨q, rfl⟩ : ∃ q, n = q + 1 := ⟨n - 1, by omega⟩
        rfl
      have Hwn := hide hwn
      have hk1 := hkn.lt hK (n - 1)
      clear hwn hcast
      obtain ⟨b1, b2⟩ := bit_eq st.1 (n - 1) (by omega) (by omega)
      clear b2
      have hz2 : (kn (n - 1)).1 ≠ 0 → (kn (n - 1)).2.size = z := fun h0 => (hkn.log h0).2.2.2.1
      generalize hjn : n - 1 = j at *
      have Hjn := hide hjn
      clear hjn
      have i1 : (0 : Int) ≤ (j : Int) := by omega
      have i2 : (j : Int) < 20 := by omega
      have hp := hat.box.lt
      have hpw : p < w.heap.size := hpw0
      by_cases hb : st.1.testBit j = true
      · rw [hb] at b1
        by_cases hf0 : (kn j).1 = 0
        · have hs : woStep kn j st = st := by unfold woStep; rw [if_neg (fun h => h.2 hf0)]
          have Hs := hide hs
          have f0 : (((kn j).1 : Int) == 0) = true := by rw [hf0]; rfl
          clear hs hf0
          go_wp2_with fail
          go_roundw
          case rel => exact ⟨j, st, by omega, rfl, rfl, by rw [← Hwo.out, Hwn.out, Hs.out], hs1, hs2, hat.on ((Below.refl _ _).alloc (Nat.le_refl _) _)⟩
          case measure => simp [intOf]
        · have hs : woStep kn j st = (st.1 ^^^ (kn j).1, xorB st.2 (kn j).2) := by unfold woStep; rw [if_pos ⟨hb, hf0⟩]
          have Hs := hide hs
          have f0 : (((kn j).1 : Int) == 0) = false := by simpa using hf0
          have hzk := hz2 hf0
          have hxx := i64_xor_nat st.1 (kn j).1 (by omega) (by omega)
          have Hxx := hide hxx
          have hlt2 : st.1 ^^^ (kn j).1 < 2 ^ 20 := Nat.xor_lt_two_pow (by omega) (by omega)
          have hin : WoIn w (wr.alloc (.cells #[.int .i64 ((kn j).1 : Int), .string (kn j).2] 82)) p K m z of kn st.2 (kn j) wr.heap.size 0 := by
            have h := hat.on ((Below.refl wr.heap.size wr).alloc (Nat.le_refl _) (.cells #[.int .i64 ((kn j).1 : Int), .string (kn j).2] 82))
            exact ⟨h.box, h.res, heap_alloc_new wr _, h.bytes.congr (fun i _ => by rw [halfByte_zero]), h.below⟩
          have hql := hat.bytes.lt
          clear hs hf0 hxx hz2 hat
          generalize kn j = f at *
          generalize hq : wr.heap.size = q at *
          go_wp2_with fail
          go_loopw [10] (fun kv wi => ∃ k : Nat, k ≤ z ∧ kv = .int .i64 (k : Int) ∧ WoIn w wi p K m z of kn st.2 f q k) (fun kv _ => z - (intOf kv).toNat)
          case atStart => exact ⟨0, Nat.zero_le _, rfl, hin⟩
          case round =>
            clear hin
            obtain ⟨k, hk, rfl, hin⟩ := hrel
            obtain ⟨e0, e1⟩ := two_cells hin.known
            by_cases hkz : k < z
            · have hcell := hin.bytes.cell k hkz
              have hfrz := hin.bytes.frozen k hkz
              rw [halfByte_here] at hcell
              have hpn : k < f.2.size := by omega
              have g2 := byteAt_get f.2 k hpn
              have hx8 := u8_xor_nat (byteAt st.2 k).toNat (byteAt f.2 k).toNat (byteAt st.2 k).toNat_lt (byteAt f.2 k).toNat_lt
              have hnext := (hin.step hpw (by omega) hkz).drew
              have i3 : (0 : Int) ≤ (k : Int) := by omega
              have i4 : (k : Int) < (z : Int) := by omega
              have i5 : (k : Int) < (f.2.size : Int) := by omega
              clear hin
              go_wp2_with fail
              go_region
              all_goals
                clear hcell hfrz g2 hx8 e0 e1
                go_wp2
                go_roundw
                case rel => exact ⟨k + 1, by omega, by go_num, hnext⟩
                case measure => simp [intOf]; omega
            · have hkk : k = z := by omega
              subst hkk
              have hbytes : BytesAt wr (w.heap.size + 1) k (byteAt (xorB st.2 f.2)) := hin.bytes.congr (fun i hi => by
                have := halfByte_all st.2 f.2 (by omega) i (by omega)
                rw [hs2] at this
                exact this)
              have hnext : WoAt w wr p K m k of kn (st.1 ^^^ f.1, xorB st.2 f.2) := ⟨hin.box, hin.res, hbytes, hin.below⟩
              clear hin hbytes
              go_wp2_with fail
              go_roundw
              case rel => exact ⟨j, (st.1 ^^^ f.1, xorB st.2 f.2), by omega, rfl, by rw [Hxx.out], by rw [← Hwo.out, Hwn.out, Hs.out], by show st.1 ^^^ f.1 < _; omega, by rw [xorB_size (by omega)]; exact hs2, hnext⟩
              case measure => simp [intOf]
      · have hb' : st.1.testBit j = false := by simpa using hb
        rw [hb'] at b1
        have hs : woStep kn j st = st := by unfold woStep; rw [if_neg (fun h => hb h.1)]
        have Hs := hide hs
        clear hs
        go_wp2_with fail
        go_roundw
        case rel => exact ⟨j, st, by omega, rfl, rfl, by rw [← Hwo.out, Hwn.out, Hs.out], hs1, hs2, hat.on ((Below.refl _ _).alloc (Nat.le_refl _) _)⟩
        case measure => simp [intOf]

end Go.Proofs.YtnjaofkieajnlaaGreat

/- The program's dataOf: of which data each piece is the sum. -/
namespace Go.Proofs.YtnjaofkieajnlaaGreat
open Go.RowKit

/-- A table of forty numbers, in block g. -/
abbrev TableAt (w : World) (g : Nat) (T : Nat → Nat) : Prop := w.rowIs g 80 40 (fun i => .int .i64 (T i : Int))

theorem table_new (w : World) : TableAt (w.alloc (.cells (Array.replicate 40 (.int .i64 0)) 80)) w.heap.size (fun _ => 0) :=
  ⟨_, heap_alloc_new w _, by simp, fun i hi => by simp [hi]⟩

theorem Tryz.sizeTable : (Tryz.prog.info? 80).map (·.size) = some 40 := by kernel_rfl

/-- The units as far as j. -/
def unitTab (j i : Nat) : Nat := if i < j then 2 ^ i else 0

theorem TableAt.unit {w : World} {g j : Nat} (h : TableAt w g (unitTab j)) : TableAt (w.setCell ⟨g, j, none⟩ (.int .i64 ((2 ^ j : Nat) : Int))) g (unitTab (j + 1)) := by
  refine (World.rowIs.set h j _).congr (fun i _ => ?_)
  by_cases e : i = j
  · subst e; rw [if_pos rfl]; unfold unitTab; rw [if_pos (by omega)]
  · rw [if_neg e]
    unfold unitTab
    by_cases l : i < j
    · rw [if_pos l, if_pos (by omega)]
    · rw [if_neg l, if_neg (by omega)]

/-- The table while row i is worked out: so far the sum at 'last' is b. -/
def midTab (T : Nat → Nat) (last b j : Nat) : Nat := if j = last then b else T j

theorem TableAt.mid {w : World} {g last b b' : Nat} {T : Nat → Nat} (h : TableAt w g (midTab T last b)) : TableAt (w.setCell ⟨g, last, none⟩ (.int .i64 (b' : Int))) g (midTab T last b') := by
  refine (World.rowIs.set h last _).congr (fun i _ => ?_)
  unfold midTab
  by_cases e : i = last
  · rw [if_pos e, if_pos e]
  · rw [if_neg e, if_neg e, if_neg e]

theorem table_one {cs : Array Value} {T : Nat → Nat} (hs : cs.size = 40) (h : ∀ i, i < 40 → cs[i]? = some (.int .i64 (T i : Int))) : cs.all (·.oneCell') = true := by
  rw [Array.all_eq_true_iff_forall_mem]
  intro v hv
  obtain ⟨i, hi, rfl⟩ := Array.mem_iff_getElem.1 hv
  have := h i (by omega)
  rw [Array.getElem?_eq_getElem hi] at this
  simp at this
  rw [this]; rfl

set_option maxRecDepth 100000 in
set_option maxHeartbeats 4000000 in
theorem dataOf_any (K M O S g base : Nat) (rv : Nat → Value) (w : World) (hK : 1 ≤ K ∧ K ≤ 20) (hM : 1 ≤ M ∧ M ≤ 20) (hrows : RowsAt w base g M rv (rowOf K M O S)) :
    Calls Tryz.prog 85 #[.int .i64 (K : Int), .slice (some ⟨g, 0, none⟩) M M] w fun e w' => ∃ cs, e = .returned (.agg cs) ∧ cs.size = 40 ∧ (∀ i, i < 40 → cs[i]? = some (.int .i64 (ofs K M O S i : Int))) ∧ Below w.heap.size w w' := by
  have hofs : ofs K M O S = ofTo K M O S M := rfl
  go_enter Tryz.func85, Tryz.ntmps85
  go_wp2_with fail
  go_loopw [6] (fun jv wr => ∃ j : Nat, j ≤ K ∧ jv = .int .i64 (j : Int) ∧ TableAt wr w.heap.size (fun _ => 0) ∧ TableAt wr (w.heap.size + 1) (unitTab j) ∧ Below w.heap.size w wr) (fun jv _ => K - (intOf jv).toNat)
  case atStart =>
    have h2 := table_new (w.alloc (.cells (Array.replicate 40 (.int .i64 0)) 80))
    rw [World.size_alloc] at h2
    exact ⟨0, Nat.zero_le _, rfl, World.rowIs.alloc (table_new w) _, World.rowIs.congr h2 (fun i _ => by simp [unitTab]), ((Below.refl _ _).alloc (Nat.le_refl _) _).alloc (by simp) _⟩
  case round =>
    obtain ⟨j, hj, rfl, hres, htab, hbel⟩ := hrel
    by_cases hlt : j < K
    · have hc := World.rowIs.cell htab (i := j) (by omega)
      have hf := World.rowIs.frozen htab j
      have hnx := htab.unit
      have hr2 := World.rowIs.setOther hres (a := ⟨w.heap.size + 1, j, none⟩) (by show w.heap.size ≠ w.heap.size + 1; omega) (.int .i64 ((2 ^ j : Nat) : Int))
      have hb2 := hbel.setCell (p := ⟨w.heap.size + 1, j, none⟩) (by show w.heap.size ≤ w.heap.size + 1; omega) (.int .i64 ((2 ^ j : Nat) : Int))
      obtain ⟨s1, s2⟩ := shl_small j (by omega)
      rw [← s1] at hnx hr2 hb2
      clear htab hres s1 s2 hbel
      go_wp2_with fail
      go_roundw
      case rel => exact ⟨j + 1, by omega, by go_num, hr2, hnx, hb2⟩
      case measure => simp [intOf]; omega
    · have hjK : j = K := by omega
      subst hjK
      have htab0 : TableAt wr (w.heap.size + 1) (ofTo j M O S 0) := htab
      clear htab
      obtain ⟨W, rfl⟩ : ∃ W, W = wr := ⟨_, rfl⟩
      go_wp2_with fail
      go_loopw [23] (fun iv wr => ∃ i : Nat, i ≤ M ∧ iv = .int .i64 (i : Int) ∧ TableAt wr w.heap.size (fun _ => 0) ∧ TableAt wr (w.heap.size + 1) (ofTo j M O S i) ∧ Below w.heap.size w wr) (fun iv _ => M - (intOf iv).toNat)
      case atStart => exact ⟨0, Nat.zero_le _, rfl, hres, htab0, hbel⟩
      case round =>
        clear htab0 hres hbel
        obtain ⟨i, hi, rfl, hres, htab, hbel⟩ := hrel
        by_cases hiM : i < M
        · have hr := hrows.below hbel
          have hcell := hr.cell hiM
          obtain ⟨ra, rcap, hrv, hrc⟩ := owns_view (hrows.own i hiM)
          rw [hrv] at hcell
          have hrl := rowOf_len j M O S i
          have hrlt := rowOf_lt j M O S i
          have i1 : (0 : Int) ≤ (i : Int) := by omega
          have i2 : (i : Int) < (M : Int) := by omega
          have htab0 : TableAt wr (w.heap.size + 1) (midTab (ofTo j M O S i) (j + i) (ofRow (ofTo j M O S i) (j + i) ((rowOf j M O S i).take 0))) := World.rowIs.congr htab (fun n _ => by
            show Value.int .i64 _ = Value.int .i64 _
            unfold midTab
            by_cases e : n = j + i
            · rw [if_pos e, e, ofTo_above j M O S i (j + i) (Nat.le_refl _)]; rfl
            · rw [if_neg e])
          have hnext : ofTo j M O S (i + 1) = midTab (ofTo j M O S i) (j + i) (ofRow (ofTo j M O S i) (j + i) (rowOf j M O S i)) := rfl
          have Hnext := hide hnext
          have hTlt : ∀ n, ofTo j M O S i n < 2 ^ j := fun n => ofTo_lt j M O S i n
          have hj20 : 2 ^ j ≤ 2 ^ 20 := Nat.pow_le_pow_right (by omega) hK.2
          clear htab hnext hr
          generalize hrow : rowOf j M O S i = row at *
          generalize hT : ofTo j M O S i = T at *
          go_wp2_with fail
          clear hcell
          go_loopw [33] (fun kv wr => ∃ k : Nat, k ≤ row.length ∧ kv = .int .i64 (k : Int) ∧ TableAt wr w.heap.size (fun _ => 0) ∧ TableAt wr (w.heap.size + 1) (midTab T (j + i) (ofRow T (j + i) (row.take k))) ∧ Below w.heap.size w wr) (fun kv _ => row.length - (intOf kv).toNat)
          case atStart => exact ⟨0, Nat.zero_le _, rfl, hres, htab0, hbel⟩
          case round =>
            clear htab0 hres hbel
            obtain ⟨k, hk, rfl, hres, htab, hbel⟩ := hrel
            by_cases hkl : k < row.length
            · obtain ⟨q, rfl, hqc⟩ := hrc k hkl
              have hqc2 := (hbel.cell (p := ⟨q, k, none⟩) (block_lt_of_cell hqc)).trans hqc
              have htk := ofRow_take T (j + i) row k hkl
              have hnm : row.getD k 0 ≤ j + i := hrlt _ (by rw [List.getD_eq_getElem?_getD, List.getElem?_eq_getElem hkl]; exact List.getElem_mem hkl)
              have hbl : ofRow T (j + i) (row.take k) < 2 ^ j := ofRow_lt hTlt
              have k1 : (0 : Int) ≤ (k : Int) := by omega
              have k2 : (k : Int) < (row.length : Int) := by omega
              clear hqc
              generalize row.getD k 0 = n at *
              generalize ofRow T (j + i) (row.take k) = b at *
              by_cases hnl : n < j + i
              · rw [if_pos hnl] at htk
                have Htk := hide htk
                have cn := World.rowIs.cell htab (i := n) (by omega)
                have cl := World.rowIs.cell htab (i := j + i) (by omega)
                have fl := World.rowIs.frozen htab (j + i)
                have hTn := hTlt n
                simp only [midTab, if_neg (show ¬ n = j + i from by omega), if_true] at cn cl
                have hxx := i64_xor_nat b (T n) (by omega) (by omega)
                have hnx := htab.mid (b' := b ^^^ T n)
                have hr2 := World.rowIs.setOther hres (a := ⟨w.heap.size + 1, j + i, none⟩) (by show w.heap.size ≠ w.heap.size + 1; omega) (.int .i64 ((b ^^^ T n : Nat) : Int))
                have hb2 := (hbel.setCell (p := ⟨w.heap.size + 1, j + i, none⟩) (by show w.heap.size ≤ w.heap.size + 1; omega) (.int .i64 ((b ^^^ T n : Nat) : Int))).drew
                have n1 : (0 : Int) ≤ (n : Int) := by omega
                have n2 : (n : Int) < 40 := by omega
                have n3 : (n : Int) < (j : Int) + (i : Int) := by omega
                have l1 : (0 : Int) ≤ (j : Int) + (i : Int) := by omega
                have l2 : (j : Int) + (i : Int) < 40 := by omega
                clear htab hres hbel htk
                go_wp2_with fail
                go_region
                all_goals
                  clear cn cl fl hxx hqc2
                  go_wp2
                  go_roundw
                  case rel => exact ⟨k + 1, by omega, by go_num, hr2, by rw [Htk.out]; exact hnx, hb2⟩
                  case measure => simp [intOf]; omega
              · rw [if_neg hnl] at htk
                have Htk := hide htk
                have n3 : ¬ (n : Int) < (j : Int) + (i : Int) := by omega
                clear htk
                go_wp2_with fail
                go_roundw
                case rel => exact ⟨k + 1, by omega, by go_num, hres, by rw [Htk.out]; exact htab, hbel⟩
                case measure => simp [intOf]; omega
            · have hkk : row.take k = row := List.take_of_length_le (by omega)
              rw [hkk, ← Hnext.out] at htab
              go_wp2_with fail
              go_roundw
              case rel => exact ⟨i + 1, by omega, by go_num, hres, htab, hbel⟩
              case measure => simp [intOf]; omega
        · have hiM2 : i = M := by omega
          subst hiM2
          obtain ⟨cs, hblk, hsz, hcs⟩ := htab
          obtain ⟨cs0, hblk0, hsz0, _⟩ := hres
          have hone := table_one hsz hcs
          have hfin : ∀ w', w' = wr.setRow w.heap.size cs → Below w.heap.size w w' := by
            rintro w' rfl
            exact (((Chg.of_below hbel (fun _ => False)).setRow (Or.inl (Nat.le_refl _)) cs).below (fun _ _ x => x))
          have Hcs := hide hcs
          clear hcs hrows hbel
          go_wp2_with (first | (refine wpList_load_row rfl 80 (.tmp 5) rfl (w.heap.size + 1) rfl 80 cs (0, 0) _ hblk Tryz.underlying80 rfl (by rw [hsz]; exact Tryz.sizeTable) ?_) | (refine wpList_store_row rfl 80 (.tmp 4) (.tmp 50) rfl w.heap.size cs rfl rfl 80 cs0 hblk0 (by rw [hsz]; exact Tryz.sizeTable) (by omega) hone ?_))
          refine bodyPost_ret (v := .agg cs) (results_cell_row Tryz.results85 _ _ w.heap.size 80 cs (0, 0) _ rfl (setRow_heap _ _ _ _ _ _ hblk0) Tryz.underlying80 rfl (by rw [hsz]; exact Tryz.sizeTable)) rfl ⟨cs, rfl, hsz, Hcs.out, hfin _ rfl⟩

end Go.Proofs.YtnjaofkieajnlaaGreat

/- The program's New: an empty box. -/
namespace Go.Proofs.YtnjaofkieajnlaaGreat
open Go.RowKit

/-- The cells of a new box, as a row. -/
def tabV (T : Nat → Nat) : Array Value := ((List.range 40).map fun i => Value.int .i64 (T i : Int)).toArray

def newL (K n z : Nat) (T : Nat → Nat) : List Value := (List.range 83).map (boxCell K n z T kn0)

abbrev newV (K n z : Nat) (T : Nat → Nat) : Array Value := (newL K n z T).toArray

theorem built_box (K n z : Nat) (T : Nat → Nat) : Tryz.prog.built 85 [(0, .int .i64 (K : Int)), (1, .int .i64 (n : Int)), (2, .int .i64 (z : Int)), (3, .agg (tabV T))] = some (newV K n z T) := by kernel_rfl

theorem built_none : Tryz.prog.built 85 [] = some (newV 0 0 0 (fun _ => 0)) := by kernel_rfl

theorem zero_box (w : World) : (zeroValue 85).run Tryz.prog w = .ok (.agg (newV 0 0 0 (fun _ => 0))) w := by kernel_rfl

theorem Tryz.sizeBox : (Tryz.prog.info? 85).map (·.size) = some 83 := by kernel_rfl

theorem newV_size (K n z : Nat) (T : Nat → Nat) : (newV K n z T).size = 83 := by simp [newL]

theorem newV_get (K n z : Nat) (T : Nat → Nat) (i : Nat) (hi : i < 83) : (newV K n z T)[i]? = some (boxCell K n z T kn0 i) := by
  unfold newV newL
  rw [List.getElem?_toArray, List.getElem?_map, List.getElem?_range hi]; rfl

theorem newV_one (K n z : Nat) (T : Nat → Nat) : (newV K n z T).all (·.oneCell') = true := by
  rw [Array.all_eq_true_iff_forall_mem]
  intro v hv
  obtain ⟨i, hi, rfl⟩ := Array.mem_iff_getElem.1 hv
  have h := newV_get K n z T i (by rw [newV_size] at hi; exact hi)
  rw [Array.getElem?_eq_getElem hi] at h
  simp only [Option.some.injEq] at h
  rw [h]
  unfold boxCell
  repeat' split
  all_goals rfl

theorem tab_of {cs : Array Value} {T : Nat → Nat} (hs : cs.size = 40) (h : ∀ i, i < 40 → cs[i]? = some (.int .i64 (T i : Int))) : cs = tabV T := by
  apply Array.ext_getElem?
  intro i
  by_cases hi : i < 40
  · rw [h i hi]
    unfold tabV
    rw [List.getElem?_toArray, List.getElem?_map, List.getElem?_range hi]; rfl
  · rw [Array.getElem?_eq_none (by omega), Array.getElem?_eq_none (by unfold tabV; simp; omega)]

/-- 'build' at a box, kept whole. -/
noncomputable def builtAs (parts : Array (Nat × Value)) : Sem Value := Instr.build 85 parts

theorem build_mask (parts : Array (Nat × Value)) : Instr.build 85 parts = builtAs parts := rfl

attribute [local go_sem ↓] build_mask

theorem newL_one (K n z : Nat) (T : Nat → Nat) : ∀ v ∈ newL K n z T, v.oneCell' = true := by
  intro v hv
  have h := newV_one K n z T
  rw [Array.all_eq_true_iff_forall_mem] at h
  exact h v (by simpa using hv)

theorem newL_length (K n z : Nat) (T : Nat → Nat) : (newL K n z T).length = 83 := by simp [newL]

theorem dataOf_tab (K M O S g base : Nat) (rv : Nat → Value) (w : World) (hK : 1 ≤ K ∧ K ≤ 20) (hM : 1 ≤ M ∧ M ≤ 20) (hrows : RowsAt w base g M rv (rowOf K M O S)) :
    Calls Tryz.prog 85 #[.int .i64 (K : Int), .slice (some ⟨g, 0, none⟩) M M] w fun e w' => e = .returned (.agg (tabV (ofs K M O S))) ∧ Below w.heap.size w w' :=
  (dataOf_any K M O S g base rv w hK hM hrows).mono fun _ _ ⟨_, he, hs, hc, hb⟩ => ⟨by rw [he, tab_of hs hc], hb⟩

theorem there_of_row {w : World} {b : Nat} {cs : Array Value} {t : TypeId} (h : w.heap[b]? = some (.cells cs t (0, 0))) : w.there b 0 cs.size := fun j hj => by
  rw [Nat.zero_add, cell_of_row _ _ _ _ _ _ h, Array.getElem?_eq_getElem hj]
  exact ⟨rfl, by simp [World.frozen?, h]⟩

theorem there_below {w w' : World} {b n m : Nat} (h : w.there b 0 m) (hb : Below n w w') (hn : b < n) : w'.there b 0 m := fun j hj => by
  have := h j hj
  rw [hb.cell (p := ⟨b, 0 + j, none⟩) hn, hb.frozen (p := ⟨b, 0 + j, none⟩) hn]; exact this

theorem heap_setCells_far (b : Nat) : ∀ (vs : List Value) (o : Nat) (w : World) (k : Nat), k ≠ b → (w.setCells b o vs).heap[k]? = w.heap[k]?
  | [], _, _, _, _ => rfl
  | v :: vs, o, w, k, h => by
    show ((w.setCell ⟨b, o, none⟩ v).setCells b (o + 1) vs).heap[k]? = _
    rw [heap_setCells_far b vs (o + 1) _ k h, heap_setCell_other _ _ _ _ h]

theorem cell_setCells_far (w : World) (b o : Nat) (vs : List Value) (x : Addr) (h : x.block ≠ b) : (w.setCells b o vs).cell? x = w.cell? x :=
  World.cell?_of_block (w := w) (heap_setCells_far b vs o w x.block h)

theorem size_setCells (b : Nat) : ∀ (vs : List Value) (o : Nat) (w : World), (w.setCells b o vs).heap.size = w.heap.size
  | [], _, _ => rfl
  | v :: vs, o, w => by
    show ((w.setCell ⟨b, o, none⟩ v).setCells b (o + 1) vs).heap.size = _
    rw [size_setCells b vs (o + 1)]; simp [World.setCell]

theorem rest_setCells (b : Nat) : ∀ (vs : List Value) (o : Nat) (w : World), (w.setCells b o vs).os = w.os ∧ (w.setCells b o vs).tape = w.tape ∧ (w.setCells b o vs).output = w.output
  | [], _, _ => ⟨rfl, rfl, rfl⟩
  | v :: vs, o, w => by
    show ((w.setCell ⟨b, o, none⟩ v).setCells b (o + 1) vs).os = _ ∧ _
    exact rest_setCells b vs (o + 1) (w.setCell ⟨b, o, none⟩ v)

theorem below_setCells {n : Nat} {w w' : World} (h : Below n w w') {b : Nat} (hb : n ≤ b) (o : Nat) (vs : List Value) : Below n w (w'.setCells b o vs) := by
  obtain ⟨h1, h2, h3⟩ := rest_setCells b vs o w'
  exact ⟨h1.trans h.os, h2.trans h.tape, h3.trans h.output, by rw [size_setCells]; exact h.size, fun k hk => by rw [heap_setCells_far b vs o w' k (by omega)]; exact h.block k hk⟩

theorem storeCells_run (b : Nat) (vs : List Value) (w : World) (ht : w.there b 0 vs.length) (h1 : ∀ v ∈ vs, v.oneCell' = true) : (storeCells ⟨b, 0, none⟩ vs).run Tryz.prog w = .ok () (w.setCells b 0 vs) :=
  run_storeCells_cells (P := Tryz.prog) b 0 vs 0 w (fun j hj => by simpa using (ht j hj).1) (fun j hj => by simpa using (ht j hj).2) h1

set_option maxRecDepth 100000 in
set_option maxHeartbeats 4000000 in
theorem bnew_ok (K M O S z : Nat) (w : World) (hK : 1 ≤ K ∧ K ≤ 20) (hM : 1 ≤ M ∧ M ≤ 20) (hO : 1 ≤ O ∧ O ≤ M) (hS : S ≤ 65535) (hz : 1 ≤ z ∧ z ≤ 16) :
    Calls Tryz.prog 51 #[specV K M O S, .int .i64 (z : Int)] w fun e w' => e = .returned (.tuple #[.agg (newV K (K + M) z (ofs K M O S)), .int .i64 0]) ∧ Below w.heap.size w w' := by
  have hbuild : ∀ w, (builtAs #[(0, .int .i64 (K : Int)), (1, .int .i64 ((K + M : Nat) : Int)), (2, .int .i64 (z : Int)), (3, .agg (tabV (ofs K M O S)))]).run Tryz.prog w = .ok (.agg (newV K (K + M) z (ofs K M O S))) w := fun w => run_build (P := Tryz.prog) w 85 #[(0, .int .i64 (K : Int)), (1, .int .i64 ((K + M : Nat) : Int)), (2, .int .i64 (z : Int)), (3, .agg (tabV (ofs K M O S)))] _ (built_box K (K + M) z (ofs K M O S))
  have Hb := hide hbuild
  clear hbuild
  have hzb := zero_box
  go_enter Tryz.func51, Tryz.ntmps51
  go_wp2_with fail
  clear hzb
  refine (wrows_ok K M O S _ hK hM hO hS).mono ?_
  rintro e w1 ⟨g, rv, rfl, hrows, hg, hb1⟩
  simp only [World.size_alloc] at hb1 hg
  have hsp : w1.heap[w.heap.size]? = some (.cells #[.int .i64 (K : Int), .int .i64 (M : Int), .int .i64 (O : Int), .int .i64 (S : Int)] 25 (0, 0)) := by
    rw [hb1.block _ (by omega), heap_alloc_old _ _ (by simp)]; exact heap_alloc_new w _
  have hres : w1.heap[w.heap.size + 1]? = some (.cells (newV 0 0 0 (fun _ => 0)) 85 (0, 0)) := by
    rw [hb1.block _ (by omega)]; exact heap_alloc2_new w _ _
  obtain ⟨c0, c1, c2, c3⟩ : w1.cell? ⟨w.heap.size, 0, none⟩ = some (.int .i64 (K : Int)) ∧ w1.cell? ⟨w.heap.size, 1, none⟩ = some (.int .i64 (M : Int)) ∧ w1.cell? ⟨w.heap.size, 2, none⟩ = some (.int .i64 (O : Int)) ∧ w1.cell? ⟨w.heap.size, 3, none⟩ = some (.int .i64 (S : Int)) := by
    refine ⟨?_, ?_, ?_, ?_⟩ <;> rw [cell_of_row _ _ _ _ _ _ hsp] <;> rfl
  have z1 : ¬ (z : Int) < 1 := by omega
  have z2 : ¬ (16 : Int) < (z : Int) := by omega
  have ht := there_of_row hres
  rw [newV_size] at ht
  have hu := Tryz.underlying85
  have hi : (Tryz.prog.info? 85).map (·.size) = some (newL K (K + M) z (ofs K M O S)).length := by rw [newL_length]; exact Tryz.sizeBox
  have hsz := newL_length K (K + M) z (ofs K M O S)
  have hone := newL_one K (K + M) z (ofs K M O S)
  have hb := Hb.out
  have hwr : ((K + M : Nat) : Int) = IntKind.i64.wrap ((K : Int) + (M : Int)) := by rw [← Int.natCast_add, wrapNat _ (by omega)]
  rw [hwr] at hb
  clear hwr
  have hst : ∀ W : World, W.there (w.heap.size + 1) 0 83 → (storeCells ⟨w.heap.size + 1, 0, none⟩ (newL K (K + M) z (ofs K M O S))).run Tryz.prog W = .ok () (W.setCells (w.heap.size + 1) 0 (newL K (K + M) z (ofs K M O S))) := fun W hW => storeCells_run _ _ _ (by rw [hsz]; exact hW) hone
  have hs1 : w.heap.size + 2 ≤ w1.heap.size := by have := hb1.size; simp at this; omega
  obtain ⟨cs, hcs⟩ : ∃ cs, cs = newL K (K + M) z (ofs K M O S) := ⟨_, rfl⟩
  have Hcs := hide hcs
  unfold newV at hb
  rw [← hcs] at hb hi hsz hone hst
  clear c2 c3 Hb hcs hi hu
  go_wp2_with fail
  go_region_held3 (fun w' => w'.cell? ⟨w.heap.size, 0, none⟩ = some (.int .i64 (K : Int)) ∧ w'.cell? ⟨w.heap.size, 1, none⟩ = some (.int .i64 (M : Int)) ∧ w'.there (w.heap.size + 1) 0 83)
    (first | (exact ⟨j0, j1, j2⟩) | (exact ⟨(cell_setCells_far w2 _ _ _ _ (by show w.heap.size ≠ w.heap.size + 1; omega)).trans j0, (cell_setCells_far w2 _ _ _ _ (by show w.heap.size ≠ w.heap.size + 1; omega)).trans j1, World.there_setCells j2 _ _ _⟩) | go_keep_ranges)
    (first
      | (go_at_call 85; refine (dataOf_tab K M O S g (g + 1) rv _ hK hM ?_).mono ?_; (first | exact hrows | exact hrows.drew); rintro e w2 ⟨rfl, hb2⟩; have j0 := (hb2.cell (p := ⟨w.heap.size, 0, none⟩) (show w.heap.size < w1.heap.size from by omega)).trans c0; have j1 := (hb2.cell (p := ⟨w.heap.size, 1, none⟩) (show w.heap.size < w1.heap.size from by omega)).trans c1; have j2 := there_below (w := w1.drew) (n := w1.heap.size) ht hb2 (by omega)))
  have hr := World.rangeAt_setCells_same w2 (w.heap.size + 1) 0 cs (by rw [hsz]; exact j2)
  have hb3 : Below w.heap.size w (w2.setCells (w.heap.size + 1) 0 cs) := by
    have h1 : Below w.heap.size w w1 := (((Below.refl w.heap.size w).alloc (Nat.le_refl _) _).alloc (by simp) _).trans (hb1.mono (by omega))
    have h2 : Below w.heap.size w w2 := h1.drew.trans (Below.mono hb2 (show w.heap.size ≤ w1.heap.size from by omega))
    exact below_setCells h2 (Nat.le_succ _) _ _
  clear hb1 hb2 hrows c0 c1 ht hst hb j0 j1 j2 hres hsp
  go_wp2_with fail
  refine bodyPost_ret (v := .tuple #[.agg cs.toArray, .int .i64 0]) ?_ rfl ⟨by rw [Hcs.out], hb3⟩
  rw [results_cell_tmp Tryz.results51]
  have hl := run_loadVar_mid (P := Tryz.prog) _ (w.heap.size + 1) 0 85 cs _ hr Tryz.underlying85 rfl (by rw [hsz]; exact Tryz.sizeBox)
  simp [asAddr, hl]

abbrev zeroL : List Value := newL 0 0 0 (fun _ => 0)

set_option maxRecDepth 100000 in
set_option maxHeartbeats 4000000 in
theorem bnew_bad (K M O S z : Int) (w : World) (hmay : mayB K M O S = false) :
    Calls Tryz.prog 51 #[specV K M O S, .int .i64 z] w fun e w' => e = .returned (.tuple #[.agg zeroL.toArray, .int .i64 1]) ∧ Below w.heap.size w w' := by
  have hb : ∀ w, (builtAs #[]).run Tryz.prog w = .ok (.agg zeroL.toArray) w := fun w => run_build (P := Tryz.prog) w 85 #[] _ built_none
  have hzb : ∀ w, (zeroValue 85).run Tryz.prog w = .ok (.agg zeroL.toArray) w := zero_box
  have hsz : zeroL.length = 83 := newL_length 0 0 0 (fun _ => 0)
  have hone := newL_one 0 0 0 (fun _ => 0)
  have hst : ∀ W : World, W.there (w.heap.size + 1) 0 83 → (storeCells ⟨w.heap.size + 1, 0, none⟩ zeroL).run Tryz.prog W = .ok () (W.setCells (w.heap.size + 1) 0 zeroL) := fun W hW => storeCells_run _ _ _ (by rw [hsz]; exact hW) hone
  obtain ⟨cs, hcs⟩ : ∃ cs, cs = zeroL := ⟨_, rfl⟩
  have Hcs := hide hcs
  rw [← hcs] at hb hzb hsz hst
  clear hcs hone
  go_enter Tryz.func51, Tryz.ntmps51
  go_wp2_with fail
  clear hzb
  refine (wrows_bad K M O S _ hmay).mono ?_
  rintro e w1 ⟨rfl, hb1⟩
  simp only [World.size_alloc] at hb1
  have hres : w1.heap[w.heap.size + 1]? = some (.cells cs.toArray 85 (0, 0)) := by
    rw [hb1.block _ (by omega)]; exact heap_alloc2_new w _ _
  have ht : w1.there (w.heap.size + 1) 0 83 := by
    have h := there_of_row hres
    rwa [show cs.toArray.size = 83 from by simp [hsz]] at h
  have hst1 := hst w1 ht
  have hr := World.rangeAt_setCells_same w1 (w.heap.size + 1) 0 cs (by rw [hsz]; exact ht)
  have hb3 : Below w.heap.size w (w1.setCells (w.heap.size + 1) 0 cs) := by
    have h1 : Below w.heap.size w w1 := (((Below.refl w.heap.size w).alloc (Nat.le_refl _) _).alloc (by simp) _).trans (hb1.mono (by omega))
    exact below_setCells h1 (Nat.le_succ _) _ _
  clear hb1 hst ht hres
  go_wp2_with fail
  refine bodyPost_ret (v := .tuple #[.agg cs.toArray, .int .i64 1]) ?_ rfl ⟨by rw [Hcs.out], hb3⟩
  rw [results_cell_tmp Tryz.results51]
  have hl := run_loadVar_mid (P := Tryz.prog) _ (w.heap.size + 1) 0 85 cs _ hr Tryz.underlying85 rfl (by rw [hsz]; exact Tryz.sizeBox)
  simp [asAddr, hl]

set_option maxRecDepth 100000 in
set_option maxHeartbeats 4000000 in
theorem bnew_arg (K M O S : Nat) (z : Int) (w : World) (hK : 1 ≤ K ∧ K ≤ 20) (hM : 1 ≤ M ∧ M ≤ 20) (hO : 1 ≤ O ∧ O ≤ M) (hS : S ≤ 65535) (hz : z < 1 ∨ 16 < z) :
    Calls Tryz.prog 51 #[specV K M O S, .int .i64 z] w fun e w' => e = .returned (.tuple #[.agg zeroL.toArray, .int .i64 2]) ∧ Below w.heap.size w w' := by
  have hb : ∀ w, (builtAs #[]).run Tryz.prog w = .ok (.agg zeroL.toArray) w := fun w => run_build (P := Tryz.prog) w 85 #[] _ built_none
  have hzb : ∀ w, (zeroValue 85).run Tryz.prog w = .ok (.agg zeroL.toArray) w := zero_box
  have hsz : zeroL.length = 83 := newL_length 0 0 0 (fun _ => 0)
  have hone := newL_one 0 0 0 (fun _ => 0)
  have hst : ∀ W : World, W.there (w.heap.size + 1) 0 83 → (storeCells ⟨w.heap.size + 1, 0, none⟩ zeroL).run Tryz.prog W = .ok () (W.setCells (w.heap.size + 1) 0 zeroL) := fun W hW => storeCells_run _ _ _ (by rw [hsz]; exact hW) hone
  obtain ⟨cs, hcs⟩ : ∃ cs, cs = zeroL := ⟨_, rfl⟩
  have Hcs := hide hcs
  rw [← hcs] at hb hzb hsz hst
  clear hcs hone
  go_enter Tryz.func51, Tryz.ntmps51
  go_wp2_with fail
  clear hzb
  refine (wrows_ok K M O S _ hK hM hO hS).mono ?_
  rintro e w1 ⟨g, rv, rfl, _, hg, hb1⟩
  simp only [World.size_alloc] at hb1 hg
  have hres : w1.heap[w.heap.size + 1]? = some (.cells cs.toArray 85 (0, 0)) := by
    rw [hb1.block _ (by omega)]; exact heap_alloc2_new w _ _
  have ht : w1.there (w.heap.size + 1) 0 83 := by
    have h := there_of_row hres
    rwa [show cs.toArray.size = 83 from by simp [hsz]] at h
  have hst1 := hst w1 ht
  have hr := World.rangeAt_setCells_same w1 (w.heap.size + 1) 0 cs (by rw [hsz]; exact ht)
  have hb3 : Below w.heap.size w (w1.setCells (w.heap.size + 1) 0 cs) := by
    have h1 : Below w.heap.size w w1 := (((Below.refl w.heap.size w).alloc (Nat.le_refl _) _).alloc (by simp) _).trans (hb1.mono (by omega))
    exact below_setCells h1 (Nat.le_succ _) _ _
  clear hb1 hst ht hres
  rcases hz with hz | hz
  all_goals
    go_wp2_with fail
    refine bodyPost_ret (v := .tuple #[.agg cs.toArray, .int .i64 2]) ?_ rfl ⟨by rw [Hcs.out], hb3⟩
    rw [results_cell_tmp Tryz.results51]
    have hl := run_loadVar_mid (P := Tryz.prog) _ (w.heap.size + 1) 0 85 cs _ hr Tryz.underlying85 rfl (by rw [hsz]; exact Tryz.sizeBox)
    simp [asAddr, hl]

end Go.Proofs.YtnjaofkieajnlaaGreat

/- The program's New, as it is called. -/
namespace Go.Proofs.YtnjaofkieajnlaaGreat
open Go.RowKit

theorem built_rbox (K n z : Nat) (T : Nat → Nat) : Tryz.prog.built 110 [(0, .agg (newV K n z T))] = some (newV K n z T) := by kernel_rfl

noncomputable def builtAt (parts : Array (Nat × Value)) : Sem Value := Instr.build 110 parts

theorem build_mask2 (parts : Array (Nat × Value)) : Instr.build 110 parts = builtAt parts := rfl

attribute [local go_sem ↓] build_mask2

theorem newBox_at (w : World) (K n z : Nat) (T : Nat → Nat) : BoxAt (w.alloc (.cells (newV K n z T) 110)) w.heap.size K n z T kn0 :=
  ⟨_, heap_alloc_new w _, newV_size K n z T, fun i hi => newV_get K n z T i hi⟩

set_option maxRecDepth 100000 in
set_option maxHeartbeats 4000000 in
theorem new_ok (K M O S z : Nat) (w : World) (hK : 1 ≤ K ∧ K ≤ 20) (hM : 1 ≤ M ∧ M ≤ 20) (hO : 1 ≤ O ∧ O ≤ M) (hS : S ≤ 65535) (hz : 1 ≤ z ∧ z ≤ 16) :
    Calls Tryz.prog 23 #[specV K M O S, .int .i64 (z : Int)] w fun e w' => ∃ p, e = .returned (.tuple #[.pointer (some ⟨p, 0, none⟩), .int .i64 0]) ∧ BoxAt w' p K (K + M) z (ofs K M O S) kn0 ∧ w.heap.size ≤ p ∧ Below w.heap.size w w' := by
  have hbx := fun w => newBox_at w K (K + M) z (ofs K M O S)
  have hb : ∀ w, (builtAt #[(0, .agg (newL K (K + M) z (ofs K M O S)).toArray)]).run Tryz.prog w = .ok (.agg (newL K (K + M) z (ofs K M O S)).toArray) w := fun w => run_build (P := Tryz.prog) w 110 #[_] _ (built_rbox K (K + M) z (ofs K M O S))
  have hzb : ∀ w, (zeroValue 85).run Tryz.prog w = .ok (.agg zeroL.toArray) w := zero_box
  have hsz := newL_length K (K + M) z (ofs K M O S)
  have hone := newL_one K (K + M) z (ofs K M O S)
  have hnew := bnew_ok K M O S z
  unfold newV at hbx hnew
  generalize newL K (K + M) z (ofs K M O S) = cs at *
  have hzl : zeroL.length = 83 := newL_length 0 0 0 (fun _ => 0)
  generalize zeroL = zs at *
  have hi : (Tryz.prog.info? 85).map (·.size) = some cs.length := by rw [hsz]; exact Tryz.sizeBox
  go_enter Tryz.func23, Tryz.ntmps23
  go_wp2_with fail
  refine (hnew _ hK hM hO hS hz).mono ?_
  rintro e w1 ⟨rfl, hb1⟩
  have ht : (w1.alloc (.cells zs.toArray 85)).there w1.heap.size 0 83 := by
    have h := there_of_row (heap_alloc_new w1 (.cells zs.toArray 85))
    rwa [show zs.toArray.size = 83 from by simp [hzl]] at h
  have hst := storeCells_run w1.heap.size cs (w1.alloc (.cells zs.toArray 85)) (by rw [hsz]; exact ht) hone
  have hr := World.rangeAt_setCells_same (w1.alloc (.cells zs.toArray 85)) w1.heap.size 0 cs (by rw [hsz]; exact ht)
  have hbW : Below w.heap.size w ((w1.alloc (.cells zs.toArray 85)).setCells w1.heap.size 0 cs) := by
    have h0 : Below w.heap.size w w1 := ((Below.refl w.heap.size w).alloc (Nat.le_refl _) _).trans (hb1.mono (by simp))
    exact below_setCells (h0.alloc h0.size _) h0.size _ _
  generalize hW : (w1.alloc (.cells zs.toArray 85)).setCells w1.heap.size 0 cs = W at *
  clear ht hb1 hnew hone hW
  go_wp2_with (refine wpList_load_mid rfl 85 (.tmp 6) rfl w1.heap.size 0 rfl cs _ hr Tryz.underlying85 rfl hi ?_)
  go_ret2
  exact ⟨_, rfl, hbx W, hbW.size, hbW.alloc hbW.size _⟩

set_option maxRecDepth 100000 in
set_option maxHeartbeats 4000000 in
theorem new_bad (K M O S z : Int) (w : World) (hmay : mayB K M O S = false) :
    Calls Tryz.prog 23 #[specV K M O S, .int .i64 z] w fun e w' => e = .returned (.tuple #[.pointer none, .int .i64 1]) ∧ Below w.heap.size w w' := by
  have hzb : ∀ w, (zeroValue 85).run Tryz.prog w = .ok (.agg zeroL.toArray) w := zero_box
  have hzl : zeroL.length = 83 := newL_length 0 0 0 (fun _ => 0)
  have hnew := bnew_bad K M O S z
  have hone : ∀ v ∈ zeroL, v.oneCell' = true := newL_one 0 0 0 (fun _ => 0)
  generalize zeroL = zs at *
  go_enter Tryz.func23, Tryz.ntmps23
  go_wp2_with fail
  refine (hnew _ hmay).mono ?_
  rintro e w1 ⟨rfl, hb1⟩
  have ht : (w1.alloc (.cells zs.toArray 85)).there w1.heap.size 0 83 := by
    have h := there_of_row (heap_alloc_new w1 (.cells zs.toArray 85))
    rwa [show zs.toArray.size = 83 from by simp [hzl]] at h
  have hst := storeCells_run w1.heap.size zs (w1.alloc (.cells zs.toArray 85)) (by rw [hzl]; exact ht) hone
  have hbW : Below w.heap.size w ((w1.alloc (.cells zs.toArray 85)).setCells w1.heap.size 0 zs) := by
    have h0 : Below w.heap.size w w1 := ((Below.refl w.heap.size w).alloc (Nat.le_refl _) _).trans (hb1.mono (by simp))
    exact below_setCells (h0.alloc h0.size _) h0.size _ _
  generalize hW : (w1.alloc (.cells zs.toArray 85)).setCells w1.heap.size 0 zs = W at *
  clear ht hb1 hnew hone hW
  go_wp2_with fail
  go_ret2
  exact ⟨rfl, hbW⟩

set_option maxRecDepth 100000 in
set_option maxHeartbeats 4000000 in
theorem new_arg (K M O S : Nat) (z : Int) (w : World) (hK : 1 ≤ K ∧ K ≤ 20) (hM : 1 ≤ M ∧ M ≤ 20) (hO : 1 ≤ O ∧ O ≤ M) (hS : S ≤ 65535) (hz : z < 1 ∨ 16 < z) :
    Calls Tryz.prog 23 #[specV K M O S, .int .i64 z] w fun e w' => e = .returned (.tuple #[.pointer none, .int .i64 2]) ∧ Below w.heap.size w w' := by
  have hzb : ∀ w, (zeroValue 85).run Tryz.prog w = .ok (.agg zeroL.toArray) w := zero_box
  have hzl : zeroL.length = 83 := newL_length 0 0 0 (fun _ => 0)
  have hnew := bnew_arg K M O S z
  have hone : ∀ v ∈ zeroL, v.oneCell' = true := newL_one 0 0 0 (fun _ => 0)
  generalize zeroL = zs at *
  go_enter Tryz.func23, Tryz.ntmps23
  go_wp2_with fail
  refine (hnew _ hK hM hO hS hz).mono ?_
  rintro e w1 ⟨rfl, hb1⟩
  have ht : (w1.alloc (.cells zs.toArray 85)).there w1.heap.size 0 83 := by
    have h := there_of_row (heap_alloc_new w1 (.cells zs.toArray 85))
    rwa [show zs.toArray.size = 83 from by simp [hzl]] at h
  have hst := storeCells_run w1.heap.size zs (w1.alloc (.cells zs.toArray 85)) (by rw [hzl]; exact ht) hone
  have hbW : Below w.heap.size w ((w1.alloc (.cells zs.toArray 85)).setCells w1.heap.size 0 zs) := by
    have h0 : Below w.heap.size w w1 := ((Below.refl w.heap.size w).alloc (Nat.le_refl _) _).trans (hb1.mono (by simp))
    exact below_setCells (h0.alloc h0.size _) h0.size _ _
  generalize hW : (w1.alloc (.cells zs.toArray 85)).setCells w1.heap.size 0 zs = W at *
  clear ht hb1 hnew hone hW
  go_wp2_with fail
  go_ret2
  exact ⟨rfl, hbW⟩

end Go.Proofs.YtnjaofkieajnlaaGreat
