/- The program's 'without': what is left of a piece when the known sums are taken away. -/
import Derived.Test.YtnjaofkieajnlaaGreatPBox2
namespace Go.Proofs.YtnjaofkieajnlaaGreat
open Go.RowKit

theorem Tryz.infoSum : (Tryz.prog.info? 82).map (fun i => (i.zero, i.size, i.bytes)) = some (some (.agg #[.int .i64 0, .string ByteArray.empty]), 2, 24) := by kernel_rfl

theorem Tryz.sizeSum : (Tryz.prog.info? 82).map (·.size) = some 2 := by kernel_rfl

/-- Where 'without' stands ahead of the known sums below n: the result's block is the first new one. -/
structure WoAt (w wr : World) (p K m z : Nat) (of : Nat → Nat) (kn : Kn) (st : Fct) : Prop where
  box : BoxAt wr p K m z of kn
  res : wr.heap[w.heap.size]? = some (.cells #[.int .i64 0, .string ⟨#[]⟩] 82 (0, 0))
  bytes : BytesAt wr (w.heap.size + 1) z (byteAt st.2)
  below : Below w.heap.size w wr

theorem two_cells {w : World} {q : Nat} {a b : Value} {t : TypeId} (h : w.heap[q]? = some (.cells #[a, b] t (0, 0))) : w.cell? ⟨q, 0, none⟩ = some a ∧ w.cell? ⟨q, 1, none⟩ = some b :=
  ⟨by rw [cell_of_row _ _ _ _ _ _ h]; rfl, by rw [cell_of_row _ _ _ _ _ _ h]; rfl⟩

theorem two_frozen {w : World} {q : Nat} {cs : Array Value} {t : TypeId} (h : w.heap[q]? = some (.cells cs t (0, 0))) (i : Nat) : w.frozen? ⟨q, i, none⟩ = false := by
  simp [World.frozen?, h]

theorem WoAt.on {w wr w' : World} {p K m z : Nat} {of : Nat → Nat} {kn : Kn} {st : Fct} (h : WoAt w wr p K m z of kn st) (hb : Below wr.heap.size wr w') : WoAt w w' p K m z of kn st := by
  have hl := h.bytes.lt
  exact ⟨h.box.on (Nat.le_refl _) hb, by rw [hb.block _ (by omega)]; exact h.res, h.bytes.on (Nat.le_refl _) hb, h.below.trans (hb.mono (by omega))⟩

/-- .. and within a known sum: it lies in block q; the first k bytes are done. -/
structure WoIn (w wi : World) (p K m z : Nat) (of : Nat → Nat) (kn : Kn) (t : ByteArray) (f : Fct) (q k : Nat) : Prop where
  box : BoxAt wi p K m z of kn
  res : wi.heap[w.heap.size]? = some (.cells #[.int .i64 0, .string ⟨#[]⟩] 82 (0, 0))
  known : wi.heap[q]? = some (.cells #[.int .i64 (f.1 : Int), .string f.2] 82 (0, 0))
  bytes : BytesAt wi (w.heap.size + 1) z (halfByte t f.2 k)
  below : Below w.heap.size w wi

theorem WoIn.step {w wi : World} {p K m z : Nat} {of : Nat → Nat} {kn : Kn} {t : ByteArray} {f : Fct} {q k : Nat} (h : WoIn w wi p K m z of kn t f q k) (hp : p < w.heap.size) (hq : w.heap.size + 1 < q) (hk : k < z) :
    WoIn w (wi.setCell ⟨w.heap.size + 1, k, none⟩ (.int .u8 (((byteAt t k).toNat ^^^ (byteAt f.2 k).toNat : Nat) : Int))) p K m z of kn t f q (k + 1) := by
  refine ⟨h.box.block (heap_setCell_other _ _ _ _ (by show p ≠ w.heap.size + 1; omega)), ?_, ?_, h.bytes.step hk, h.below.setCell (by show w.heap.size ≤ w.heap.size + 1; omega) _⟩
  · rw [heap_setCell_other _ _ _ _ (by show w.heap.size ≠ w.heap.size + 1; omega)]; exact h.res
  · rw [heap_setCell_other _ _ _ _ (by show q ≠ w.heap.size + 1; omega)]; exact h.known

theorem WoIn.drew {w wi : World} {p K m z : Nat} {of : Nat → Nat} {kn : Kn} {t : ByteArray} {f : Fct} {q k : Nat} (h : WoIn w wi p K m z of kn t f q k) : WoIn w wi.drew p K m z of kn t f q k :=
  ⟨h.box, h.res, h.known, ⟨h.bytes.lt, h.bytes.cell, h.bytes.frozen⟩, h.below.drew⟩

set_option maxRecDepth 100000 in
set_option maxHeartbeats 4000000 in
theorem without_any (p K m z x : Nat) (of : Nat → Nat) (kn : Kn) (t : ByteArray) (w : World) (hK : K ≤ 20) (hkn : KnOk K z kn) (hx : x < 1048576) (ht : t.size = z) (hz : z ≤ 1000) (hbox : BoxAt w p K m z of kn) :
    Calls Tryz.prog 86 #[.pointer (some ⟨p, 0, none⟩), .int .i64 (x : Int), .string t] w fun e w' => e = .returned (.agg #[.int .i64 ((left kn x t).1 : Int), .string (left kn x t).2]) ∧ Below w.heap.size w w' := by
  obtain ⟨cap, W1, hrun, hcell, hfrz, hbel, hlt⟩ := bytes_run t (w.alloc (.cells #[.int .i64 0, .string ⟨#[]⟩] 82))
  rw [World.size_alloc] at hrun hcell hfrz hbel hlt
  rw [ht] at hrun hcell hfrz
  have hw0 : WoAt w W1 p K m z of kn (x, t) := by
    have hb0 : Below w.heap.size w (w.alloc (.cells #[.int .i64 0, .string ⟨#[]⟩] 82)) := (Below.refl _ _).alloc (Nat.le_refl _) _
    have hb1 : Below w.heap.size w W1 := hb0.trans (hbel.mono (by omega))
    exact ⟨hbox.on (Nat.le_refl _) hb1, by rw [hbel.block _ (by omega)]; exact heap_alloc_new w _, ⟨hlt, hcell, hfrz⟩, hb1⟩
  have hpw0 := hbox.lt
  clear hcell hfrz hbel
  go_enter Tryz.func86, Tryz.ntmps86
  go_wp2_with fail
  clear hrun
  go_loopw [1, 8] (fun ov jv wr => ∃ (n : Nat) (st : Fct), n ≤ 20 ∧ jv = .int .i64 ((n : Int) - 1) ∧ ov = .int .i64 (st.1 : Int) ∧ wo kn n st = left kn x t ∧ st.1 < 1048576 ∧ st.2.size = z ∧ WoAt w wr p K m z of kn st) (fun _ jv _ => (intOf jv + 1).toNat)
  case atStart => exact ⟨20, (x, t), Nat.le_refl _, rfl, rfl, rfl, hx, ht, hw0⟩
  case round =>
    clear hw0 hbox
    obtain ⟨n, st, hn, rfl, rfl, hwo, hs1, hs2, hat⟩ := hrel
    have Hwo := hide hwo
    clear hwo
    by_cases hn0 : n = 0
    · subst hn0
      have hst : st = left kn x t := Hwo.out
      rw [← hst]
      have hc : ∀ i, i < z → wr.cell? ⟨w.heap.size + 1, 0 + i, none⟩ = some (.int .u8 ((numsB st.2).getD i 0)) := fun i hi => by
        rw [Nat.zero_add, numsB_getD]; exact hat.bytes.cell i hi
      have hcv := run_convert_bytes_arg (P := Tryz.prog) wr 106 5 Tryz.underlying106 Tryz.underlying5 (w.heap.size + 1) 0 z cap (numsB st.2) (by rw [numsB_length]; exact hs2) hc 9 Tryz.underlying9
      rw [strOfNums_numsB] at hcv
      have r0 := (two_cells hat.res).1
      have r1 := (two_cells hat.res).2
      have z0 := two_frozen hat.res 0
      have z1 := two_frozen hat.res 1
      have hres := hat.res
      have hbl := hat.below
      have Hst := hide hst
      clear hc hat hst Hwo
      have hfin : ∀ w', w' = (wr.setCell ⟨w.heap.size, 0, none⟩ (.int .i64 (st.1 : Int))).setCell ⟨w.heap.size, 1, none⟩ (.string st.2) → w'.heap[w.heap.size]? = some (.cells #[.int .i64 (st.1 : Int), .string st.2] 82 (0, 0)) ∧ Below w.heap.size w w' := by
        rintro w' rfl
        have h1 := heap_setCell_same wr w.heap.size 0 _ _ (.int .i64 (st.1 : Int)) hres
        have h2 := heap_setCell_same _ w.heap.size 1 _ _ (.string st.2) h1
        exact ⟨by rw [h2]; rfl, (hbl.setCell (Nat.le_refl _) _).setCell (Nat.le_refl _) _⟩
      clear hres hbl
      go_wp2_with fail
      obtain ⟨hf1, hf2⟩ := hfin _ rfl
      exact bodyPost_ret (v := .agg #[.int .i64 (st.1 : Int), .string st.2]) (results_cell_row Tryz.results86 _ _ w.heap.size 82 _ (0, 0) _ rfl hf1 Tryz.underlying82 rfl Tryz.sizeSum) rfl ⟨by rw [Hst.out], hf2⟩
    · have hj : n - 1 < 20 := by omega
      obtain ⟨c0, c1⟩ := hat.box.known hj
      have hcast : ((n : Int) - 1) = ((n - 1 : Nat) : Int) := by omega
      rw [hcast]
      have hwn : wo kn n st = wo kn (n - 1) (woStep kn (n - 1) st) := by
        obtain ⟨q, rfl⟩ : ∃ q, n = q + 1 := ⟨n - 1, by omega⟩
        rfl
      have Hwn := hide hwn
      have hk1 := hkn.lt hK (n - 1)
      clear hwn hcast
      obtain ⟨b1, b2⟩ := bit_eq st.1 (n - 1) (by omega) (by omega)
      clear b2
      have hz2 : (kn (n - 1)).1 ≠ 0 → (kn (n - 1)).2.size = z := fun h0 => (hkn.log h0).2.2.2.1
      generalize hjn : n - 1 = j at *
      have Hjn := hide hjn
      clear hjn
      have i1 : (0 : Int) ≤ (j : Int) := by omega
      have i2 : (j : Int) < 20 := by omega
      have hp := hat.box.lt
      have hpw : p < w.heap.size := hpw0
      by_cases hb : st.1.testBit j = true
      · rw [hb] at b1
        by_cases hf0 : (kn j).1 = 0
        · have hs : woStep kn j st = st := by unfold woStep; rw [if_neg (fun h => h.2 hf0)]
          have Hs := hide hs
          have f0 : (((kn j).1 : Int) == 0) = true := by rw [hf0]; rfl
          clear hs hf0
          go_wp2_with fail
          go_roundw
          case rel => exact ⟨j, st, by omega, rfl, rfl, by rw [← Hwo.out, Hwn.out, Hs.out], hs1, hs2, hat.on ((Below.refl _ _).alloc (Nat.le_refl _) _)⟩
          case measure => simp [intOf]
        · have hs : woStep kn j st = (st.1 ^^^ (kn j).1, xorB st.2 (kn j).2) := by unfold woStep; rw [if_pos ⟨hb, hf0⟩]
          have Hs := hide hs
          have f0 : (((kn j).1 : Int) == 0) = false := by simpa using hf0
          have hzk := hz2 hf0
          have hxx := i64_xor_nat st.1 (kn j).1 (by omega) (by omega)
          have Hxx := hide hxx
          have hlt2 : st.1 ^^^ (kn j).1 < 2 ^ 20 := Nat.xor_lt_two_pow (by omega) (by omega)
          have hin : WoIn w (wr.alloc (.cells #[.int .i64 ((kn j).1 : Int), .string (kn j).2] 82)) p K m z of kn st.2 (kn j) wr.heap.size 0 := by
            have h := hat.on ((Below.refl wr.heap.size wr).alloc (Nat.le_refl _) (.cells #[.int .i64 ((kn j).1 : Int), .string (kn j).2] 82))
            exact ⟨h.box, h.res, heap_alloc_new wr _, h.bytes.congr (fun i _ => by rw [halfByte_zero]), h.below⟩
          have hql := hat.bytes.lt
          clear hs hf0 hxx hz2 hat
          generalize kn j = f at *
          generalize hq : wr.heap.size = q at *
          go_wp2_with fail
          go_loopw [10] (fun kv wi => ∃ k : Nat, k ≤ z ∧ kv = .int .i64 (k : Int) ∧ WoIn w wi p K m z of kn st.2 f q k) (fun kv _ => z - (intOf kv).toNat)
          case atStart => exact ⟨0, Nat.zero_le _, rfl, hin⟩
          case round =>
            clear hin
            obtain ⟨k, hk, rfl, hin⟩ := hrel
            obtain ⟨e0, e1⟩ := two_cells hin.known
            by_cases hkz : k < z
            · have hcell := hin.bytes.cell k hkz
              have hfrz := hin.bytes.frozen k hkz
              rw [halfByte_here] at hcell
              have hpn : k < f.2.size := by omega
              have g2 := byteAt_get f.2 k hpn
              have hx8 := u8_xor_nat (byteAt st.2 k).toNat (byteAt f.2 k).toNat (byteAt st.2 k).toNat_lt (byteAt f.2 k).toNat_lt
              have hnext := (hin.step hpw (by omega) hkz).drew
              have i3 : (0 : Int) ≤ (k : Int) := by omega
              have i4 : (k : Int) < (z : Int) := by omega
              have i5 : (k : Int) < (f.2.size : Int) := by omega
              clear hin
              go_wp2_with fail
              go_region
              all_goals
                clear hcell hfrz g2 hx8 e0 e1
                go_wp2
                go_roundw
                case rel => exact ⟨k + 1, by omega, by go_num, hnext⟩
                case measure => simp [intOf]; omega
            · have hkk : k = z := by omega
              subst hkk
              have hbytes : BytesAt wr (w.heap.size + 1) k (byteAt (xorB st.2 f.2)) := hin.bytes.congr (fun i hi => by
                have := halfByte_all st.2 f.2 (by omega) i (by omega)
                rw [hs2] at this
                exact this)
              have hnext : WoAt w wr p K m k of kn (st.1 ^^^ f.1, xorB st.2 f.2) := ⟨hin.box, hin.res, hbytes, hin.below⟩
              clear hin hbytes
              go_wp2_with fail
              go_roundw
              case rel => exact ⟨j, (st.1 ^^^ f.1, xorB st.2 f.2), by omega, rfl, by rw [Hxx.out], by rw [← Hwo.out, Hwn.out, Hs.out], by show st.1 ^^^ f.1 < _; omega, by rw [xorB_size (by omega)]; exact hs2, hnext⟩
              case measure => simp [intOf]
      · have hb' : st.1.testBit j = false := by simpa using hb
        rw [hb'] at b1
        have hs : woStep kn j st = st := by unfold woStep; rw [if_neg (fun h => hb h.1)]
        have Hs := hide hs
        clear hs
        go_wp2_with fail
        go_roundw
        case rel => exact ⟨j, st, by omega, rfl, rfl, by rw [← Hwo.out, Hwn.out, Hs.out], hs1, hs2, hat.on ((Below.refl _ _).alloc (Nat.le_refl _) _)⟩
        case measure => simp [intOf]

end Go.Proofs.YtnjaofkieajnlaaGreat
