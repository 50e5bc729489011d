/- The document's own Mail: Parts, part, mixed. -/
import Derived.Test.YtnjaofkieajnlaaMailM
import Derived.Test.YtnjaofkieajnlaaSendE
import Derived.BigRegion
namespace Go.Proofs.Ytnjaofkieajnlaa
open Go.RowKit

theorem empty_bytes {t : ByteArray} (h : t.size = 0) : t = ⟨#[]⟩ := bytes_ext (by rw [h]; rfl) (fun i hi => by omega)

set_option maxRecDepth 100000 in
set_option maxHeartbeats 1000000 in
theorem rparts_any (t : ByteArray) (n : Nat) (w : World) (hn : 1 ≤ n ∧ n ≤ 1000) (ht : t.size ≤ 1125899906842624) :
    Calls Try.prog 65 #[.string t, .int .i64 (n : Int)] w fun e w' => e = .returned (.int .i64 (partsN t n : Int)) ∧ w' = w := by
  by_cases h0 : t.size = 0
  · have ht0 := empty_bytes h0
    have hp : partsN t n = 1 := by unfold partsN; rw [if_pos h0]
    have Hp := hide hp
    subst ht0
    clear hp
    go_enter Try.func65, Try.ntmps65
    go_wp2_with fail
    go_ret
    exact ⟨by rw [Hp.out]; rfl, rfl⟩
  · have hne : t ≠ ⟨#[]⟩ := fun e => h0 (by rw [e]; rfl)
    have hb : t.toList.isEmpty = false := by
      have hbb := beq_bytes hne
      rw [show (ByteArray.mk #[]).toList = [] from by kernel_rfl] at hbb
      cases hx : t.toList with
      | nil => rw [hx] at hbb; simp at hbb
      | cons a b => rfl
    have hp : partsN t n = (t.size + n - 1) / n := by unfold partsN; rw [if_neg h0]
    have Hp := hide hp
    have hn0 : ((n : Int) == 0) = false := beq_eq_false_iff_ne.2 (by omega)
    clear hp hne
    go_enter Try.func65, Try.ntmps65
    go_wp2_with fail
    go_ret
    refine ⟨?_, rfl⟩
    rw [Hp.out]
    refine ret_int ?_
    rw [Int.natCast_ediv]
    congr 1
    omega

set_option maxRecDepth 100000 in
set_option maxHeartbeats 1000000 in
theorem rpart_any (t : ByteArray) (n p : Nat) (w : World) (hn : 1 ≤ n ∧ n ≤ 1000) (hp : p ≤ 20) (hpn : p * n ≤ t.size) (ht : t.size ≤ 1125899906842624) :
    Calls Try.prog 66 #[.string t, .int .i64 (n : Int), .int .i64 (p : Int)] w fun e w' => e = .returned (.string (partT t n p)) ∧ w' = w := by
  have hc : (p : Int) * (n : Int) = ((p * n : Nat) : Int) := by simp
  have hb : p * n ≤ 20000 := Nat.mul_le_mul hp hn.2
  have c1 : 0 ≤ (p : Int) * (n : Int) := by rw [hc]; omega
  have c2 : (p : Int) * (n : Int) ≤ 20000 := by rw [hc]; omega
  have c3 : (p : Int) * (n : Int) ≤ (t.size : Int) := by rw [hc]; omega
  have Hc := hide hc
  clear hc
  by_cases hlt : (t.size : Int) < (p : Int) * (n : Int) + (n : Int)
  · have hpt : partT t n p = t.extract (p * n) t.size := by unfold partT; rw [if_pos (by have := Hc.out; omega)]
    have Hpt := hide hpt
    clear hpt
    go_enter Try.func66, Try.ntmps66
    go_wp2_with fail
    go_ret
    refine ⟨?_, rfl⟩
    rw [Hpt.out]
    simp
  · have hpt : partT t n p = t.extract (p * n) (p * n + n) := by unfold partT; rw [if_neg (by have := Hc.out; omega)]
    have Hpt := hide hpt
    clear hpt
    go_enter Try.func66, Try.ntmps66
    go_wp2_with fail
    go_ret
    refine ⟨?_, rfl⟩
    rw [Hpt.out]
    simp

theorem run_make_ints (n : Nat) (hn : n ≤ 1000000) (w : World) : (Instr.makeSlice 52 (.int .i64 (n : Int)) (.int .i64 (n : Int))).run Try.prog w = .ok (.slice (some ⟨w.heap.size, 0, none⟩) n n) (w.alloc (.cells (madeCells #[.int .i64 0] n) 3)) := by
  obtain ⟨i, hi, hzz⟩ := Option.map_eq_some_iff.1 Try.infoInt
  simp only [Prod.mk.injEq] at hzz
  obtain ⟨hz, hs, hb⟩ := hzz
  have h := run_make (P := Try.prog) w 52 3 i (.int .i64 0) Try.underlying52 hi hz .i64 .i64 (n : Int) (n : Int) (by omega) (by omega) (by rw [hb]; omega) (by omega)
  simp only [Int.toNat_natCast, hs, Nat.mul_one] at h
  exact h

theorem swapL_getD (l : List Nat) (i j k : Nat) (hi : i < l.length) (hj : j < l.length) : (swapL l 0 i j).getD k 0 = if k = j then l.getD i 0 else if k = i then l.getD j 0 else l.getD k 0 := by
  unfold swapL
  simp only [List.getD_eq_getElem?_getD]
  by_cases e : k = j
  · subst e
    rw [if_pos rfl, List.getElem?_set_self (by simpa using hj)]; rfl
  · rw [if_neg e, List.getElem?_set_ne (fun h => e h.symm)]
    by_cases e2 : k = i
    · subst e2
      rw [if_pos rfl, List.getElem?_set_self hi]; rfl
    · rw [if_neg e2, List.getElem?_set_ne (fun h => e2 h.symm)]

theorem nxt_le (x : Nat) : nxt x ≤ 65536 := by unfold nxt; omega

/-- Numbers in a row of the call's own. -/
def NumsIn (w : World) (g : Nat) (A : List Nat) : Prop := w.rowIs g 3 A.length (fun i => .int .i64 ((A.getD i 0 : Nat) : Int))

theorem NumsIn.swap {w : World} {g : Nat} {A : List Nat} (h : NumsIn w g A) {i j : Nat} (hi : i < A.length) (hj : j < A.length) : NumsIn ((w.setCell ⟨g, i, none⟩ (.int .i64 ((A.getD j 0 : Nat) : Int))).setCell ⟨g, j, none⟩ (.int .i64 ((A.getD i 0 : Nat) : Int))) g (swapL A 0 i j) := by
  unfold NumsIn at h ⊢
  rw [swapL_length]
  refine ((World.rowIs.set h i _).set j _).congr (fun k _ => ?_)
  rw [swapL_getD A i j k hi hj]
  by_cases e : k = j
  · rw [if_pos e, if_pos e]
  · rw [if_neg e, if_neg e]
    by_cases e2 : k = i
    · rw [if_pos e2, if_pos e2]
    · rw [if_neg e2, if_neg e2]

set_option maxRecDepth 100000 in
set_option maxHeartbeats 8000000 in
theorem rmixed_any (v : Value) (L : List ByteArray) (x0 : Nat) (w : World) (hL : TextsAt w v L) (hl : 1 ≤ L.length ∧ L.length ≤ 1000) (hx0 : x0 ≤ 65536) :
    Calls Try.prog 67 #[v, .int .i64 (x0 : Int)] w fun e w' => ∃ v', e = .returned v' ∧ w'.ownsRow w.heap.size 9 1 v' L.length (textV (mixFrom ByteArray.empty x0 L (L.length - 1))) ∧ Below w.heap.size w w' := by
  obtain ⟨j0, gi, gz0, gz1, gz2⟩ := info_parts Try.infoText
  obtain ⟨ao, cap, rfl, hcap, hT⟩ := hL
  obtain ⟨n, hn⟩ : ∃ n, n = L.length := ⟨_, rfl⟩
  have hmk := run_make_ints n (by omega)
  rw [hn] at hmk
  have hfin : ∀ A : List Nat, A = mixFrom 0 x0 (List.range L.length) (L.length - 1) → A.map (fun k => L.getD k ByteArray.empty) = mixFrom ByteArray.empty x0 L (L.length - 1) := fun A hA => by
    rw [hA, mixFrom_map (fun k => L.getD k ByteArray.empty) 0 ByteArray.empty x0 (List.range L.length) (L.length - 1) (by simp; omega), range_map_getD]
  have hlt : ∀ A : List Nat, A = mixFrom 0 x0 (List.range L.length) (L.length - 1) → A.length = L.length ∧ ∀ k, k < L.length → A.getD k 0 < L.length := fun A hA => by
    have h1 : A.length = L.length := by rw [hA, mixFrom_length, List.length_range]
    refine ⟨h1, fun k hk => ?_⟩
    have hm : A.getD k 0 ∈ A := by rw [List.getD_eq_getElem?_getD, List.getElem?_eq_getElem (by omega)]; exact List.getElem_mem _
    rw [hA] at hm
    have := mem_mixFrom 0 x0 (List.range L.length) (L.length - 1) (by simp; omega) _ hm
    rw [← hA] at this
    exact List.mem_range.1 this
  have HT := hide hT
  have HF := hide hfin
  have HL := hide hlt
  clear hT hfin hlt hn
  go_enter Try.func67, Try.ntmps67
  go_wp2_with fail
  clear hmk
  have hbA : Below w.heap.size w (w.alloc (.cells (madeCells #[.int .i64 0] L.length) 3)) := (Below.refl _ _).alloc (Nat.le_refl _) _
  have hrow0 : (w.alloc (.cells (madeCells #[.int .i64 0] L.length) 3)).rowIs w.heap.size 3 L.length (fun i => .int .i64 (((if i < 0 then i else 0) : Nat) : Int)) := (World.rowIs_made w (.int .i64 0) L.length 3).congr (fun i _ => by rw [if_neg (Nat.not_lt_zero _)]; rfl)
  go_loopw [19] (fun iv wr => ∃ k : Nat, k ≤ L.length ∧ iv = .int .i64 (k : Int) ∧ wr.rowIs w.heap.size 3 L.length (fun i => .int .i64 (((if i < k then i else 0) : Nat) : Int)) ∧ Below w.heap.size w wr) (fun iv _ => L.length - (intOf iv).toNat)
  case atStart => exact ⟨0, Nat.zero_le _, rfl, hrow0, hbA⟩
  case round =>
    clear hrow0 hbA
    obtain ⟨k, hk, rfl, hrow, hbr⟩ := hrel
    by_cases hkl : k < L.length
    · have c0 := hrow.cell (i := k) hkl
      have f0 := hrow.frozen k
      have i1 : (0 : Int) ≤ (k : Int) := by omega
      have i2 : (k : Int) < (L.length : Int) := by omega
      have hend : (wr.setCell ⟨w.heap.size, k, none⟩ (.int .i64 (k : Int))).rowIs w.heap.size 3 L.length (fun i => .int .i64 (((if i < k + 1 then i else 0) : Nat) : Int)) := (hrow.set k (.int .i64 (k : Int))).congr (fun i _ => by
        by_cases e : i = k
        · rw [if_pos e, if_pos (by omega), e]
        · rw [if_neg e]
          by_cases e2 : i < k
          · rw [if_pos e2, if_pos (by omega)]
          · rw [if_neg e2, if_neg (by omega)])
      have hbE := hbr.setCell (p := ⟨w.heap.size, k, none⟩) (Nat.le_refl _) (.int .i64 (k : Int))
      clear hrow hbr
      go_wp2_with fail
      go_roundw
      case rel => exact ⟨k + 1, by omega, by go_num, hend, hbE⟩
      case measure => simp [intOf]; omega
    · have hkk : k = L.length := by omega
      subst hkk
      have hnum : NumsIn wr w.heap.size (List.range L.length) := by
        unfold NumsIn
        rw [List.length_range]
        exact hrow.congr (fun i hi => by rw [if_pos hi, List.getD_eq_getElem?_getD, List.getElem?_range hi]; rfl)
      clear hrow
      go_wp2_with fail
      go_loopw [7, 8] (fun xv iv wr => ∃ (i x : Nat) (A : List Nat), i < L.length ∧ x ≤ 65536 ∧ A.length = L.length ∧ xv = .int .i64 (x : Int) ∧ iv = .int .i64 (i : Int) ∧ mixFrom 0 x A i = mixFrom 0 x0 (List.range L.length) (L.length - 1) ∧ NumsIn wr w.heap.size A ∧ Below w.heap.size w wr) (fun _ iv _ => (intOf iv).toNat)
      case atStart => exact ⟨L.length - 1, x0, List.range L.length, by omega, hx0, List.length_range, rfl, by congr 1; omega, rfl, hnum, hbr⟩
      case round =>
        clear hnum hbr
        obtain ⟨i, x, A, hi, hx, hA, rfl, rfl, hmix, hnum, hbr⟩ := hrel
        have Hmix := hide hmix
        clear hmix
        by_cases hi1 : 1 ≤ i
        · have hd : nxt x % (i + 1) < i + 1 := Nat.mod_lt _ (by omega)
          have hnx := nxt_le x
          have hx1 : ((75 : Int) * (x : Int) + 74) % 65537 = ((nxt x : Nat) : Int) := by unfold nxt; omega
          have hx2 : ((nxt x : Nat) : Int) % ((i : Int) + 1) = ((nxt x % (i + 1) : Nat) : Int) := by rw [Int.natCast_emod]; rfl
          have hm2 : mixFrom 0 x A i = mixFrom 0 (nxt x) (swapL A 0 i (nxt x % (i + 1))) (i - 1) := by
            obtain ⟨m, rfl⟩ : ∃ m, i = m + 1 := ⟨i - 1, by omega⟩
            rfl
          have Hm2 := hide hm2
          have Hx1 := hide hx1
          have Hx2 := hide hx2
          clear hm2 hx1 hx2
          generalize nxt x = y at *
          generalize hdd : y % (i + 1) = d at *
          have Hdd := hide hdd
          clear hdd
          have c0 := hnum.cell (i := i) (by omega)
          have c1 := hnum.cell (i := d) (by omega)
          have f0 := hnum.frozen i
          have f1 := hnum.frozen d
          have hend := hnum.swap (i := i) (j := d) (by omega) (by omega)
          obtain ⟨u, c2⟩ : ∃ u, (wr.setCell ⟨w.heap.size, i, none⟩ (.int .i64 ((A.getD d 0 : Nat) : Int))).cell? ⟨w.heap.size, d, none⟩ = some u := ⟨_, (World.rowIs.set hnum i (.int .i64 ((A.getD d 0 : Nat) : Int))).cell (i := d) (by omega)⟩
          have f2 := (World.rowIs.set hnum i (.int .i64 ((A.getD d 0 : Nat) : Int))).frozen d
          have hlen := swapL_length A 0 i d
          have hbE := (hbr.setCell (p := ⟨w.heap.size, i, none⟩) (Nat.le_refl _) (.int .i64 ((A.getD d 0 : Nat) : Int))).setCell (p := ⟨w.heap.size, d, none⟩) (Nat.le_refl _) (.int .i64 ((A.getD i 0 : Nat) : Int))
          generalize A.getD i 0 = ai at *
          generalize A.getD d 0 = ad at *
          have i1 : (0 : Int) ≤ (i : Int) := by omega
          have i2 : (i : Int) < (L.length : Int) := by omega
          have i3 : (0 : Int) ≤ (d : Int) := by omega
          have i4 : (d : Int) < (L.length : Int) := by omega
          clear hnum hbr
          go_upto_region 12 with fail
          rw [Hx1.out]
          go_upto_region 13 with fail
          rw [Hx2.out]
          go_wp2_with fail
          go_roundw
          case rel =>
            refine ⟨i - 1, y, swapL A 0 i d, by omega, hnx, by omega, rfl, ?_, ?_, hend, hbE⟩
            · show Value.int .i64 _ = Value.int .i64 _
              congr 1
              omega
            · rw [← Hmix.out, Hm2.out]
          case measure => simp [intOf]; omega
        · have hi0 : i = 0 := by omega
          have hAe : A = mixFrom 0 x0 (List.range L.length) (L.length - 1) := by have := Hmix.out; rw [hi0] at this; exact this
          have i0 : ¬ (1 : Int) ≤ (i : Int) := by omega
          clear hi0 hi1
          obtain ⟨hAl, hAlt⟩ := HL.out A hAe
          have hAm := HF.out A hAe
          have HAm := hide hAm
          clear hAe hAm Hmix HF HL
          have HAl := hide hAlt
          clear hAlt
          go_wp2_with fail
          go_loopw [11, 60] (fun ov iv wr => ∃ k : Nat, k ≤ L.length ∧ iv = .int .i64 (k : Int) ∧ wr.ownsRow (w.heap.size + 1) 9 1 ov k (textV ((A.map (fun k => L.getD k ByteArray.empty)).take k)) ∧ NumsIn wr w.heap.size A ∧ Below w.heap.size w wr) (fun _ iv _ => L.length - (intOf iv).toNat)
          case atStart => exact ⟨0, Nat.zero_le _, rfl, World.ownsRow_nil _ _ _ _, hnum, hbr⟩
          case round =>
            clear hnum hbr
            obtain ⟨k, hk, rfl, hown, hnum, hbr⟩ := hrel
            by_cases hkl : k < L.length
            · have c0 := hnum.cell (i := k) (by omega)
              have hak := HAl.out k hkl
              have hgl := hnum.lt
              have htake : (A.map (fun k => L.getD k ByteArray.empty)).take (k + 1) = (A.map (fun k => L.getD k ByteArray.empty)).take k ++ [L.getD (A.getD k 0) ByteArray.empty] := by
                rw [List.take_add_one, List.getElem?_map, List.getElem?_eq_getElem (by omega)]
                simp [List.getD_eq_getElem?_getD, List.getElem?_eq_getElem (show k < A.length by omega)]
              have Htake := hide htake
              clear htake
              generalize A.getD k 0 = ak at *
              obtain ⟨q, o, rfl, hq, ht1⟩ := HT.out ak hak
              have ht2 := (hbr.cell (p := ⟨q, o + ak, none⟩) hq).trans ht1
              clear ht1
              generalize L.getD ak ByteArray.empty = tx at *
              have i1 : (0 : Int) ≤ (k : Int) := by omega
              have i2 : (k : Int) < (L.length : Int) := by omega
              have i3 : (0 : Int) ≤ (ak : Int) := by omega
              have i4 : (ak : Int) < (L.length : Int) := by omega
              go_wp2_with (at_builtin; refine wpList_append_lies _ rfl (.tmp 64) (.tmp 69) 28 rfl (w.heap.size + 1) 9 j0 (.string ByteArray.empty) 1 16 Try.underlying28 gi gz0 gz1 gz2 rfl (by decide) _ _ _ rfl (hown.alloc _) ⟨wr.heap.size, 0, none⟩ 1 1 [.string tx] rfl rfl (one_news _ _ _) (one_oneCell rfl) (by decide) (by unfold maxLen; omega) (by omega) (by simp; omega) (wr.heap.size + 1) (by simp) ?_)
              intro g5 cap5 w5 hown5 hgr5 hat5 hlt5
              have hgr := grownBy_of_alloc hgr5
              have hnum5 : NumsIn w5 w.heap.size A := World.rowIs.of_block hnum (hgr.block _ hgl (fun e => by have := (hown.lt _ e.symm).1; omega))
              have hb5 : Below w.heap.size w w5 := hbr.grown hgr hbr.size (fun k e => by have := (hown.lt k e).1; omega)
              clear hown hnum hbr hgr5 hgr hat5 c0 ht2
              go_wp2_with fail
              go_roundw
              case rel => exact ⟨k + 1, by omega, by go_num, by rw [Htake.out, textV_append]; exact hown5, hnum5, hb5⟩
              case measure => simp [intOf]; omega
            · have hkk : k = L.length := by omega
              subst hkk
              go_wp2_with fail
              go_ret
              refine ⟨_, rfl, ?_, hbr⟩
              rw [List.take_of_length_le (by simp; omega), HAm.out] at hown
              exact owns_low hown (Nat.le_succ _)

end Go.Proofs.Ytnjaofkieajnlaa
