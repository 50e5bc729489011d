/- Texts of the proof, part 26. -/
import Derived.Test.YtnjaofkieajnlaaGreatAlluptoG10
import Derived.Test.YtnjaofkieajnlaaGreatAlluptoG24
import Derived.Test.YtnjaofkieajnlaaGreatAlluptoG7

/- The statement's own looks. -/
namespace Go.Proofs.YtnjaofkieajnlaaGreat
open Go.RowKit

/-- How an owned list is read. -/
theorem owns_read {w : World} {e : TypeId} {v : Value} {n : Nat} {l : List Value} (h : w.ownsRow 0 e 1 v n l) : ∃ ao cap, v = .slice ao n cap ∧ ∀ i, i < n → ∃ q, ao = some ⟨q, 0, none⟩ ∧ q < w.heap.size ∧ w.cell? ⟨q, i, none⟩ = some (l.getD i nilV) := by
  have hl := h.1
  rcases h.2 with ⟨rfl, rfl⟩ | ⟨g, cap, cur, rfl, _, hg, _⟩
  · exact ⟨none, 0, rfl, fun i hi => absurd hi (Nat.not_lt_zero _)⟩
  · refine ⟨_, cap, rfl, fun i hi => ⟨g, rfl, (Array.getElem?_eq_some_iff.1 hg).1, ?_⟩⟩
    rw [h.cellAt i (by omega), List.getD_eq_getElem?_getD, List.getElem?_eq_getElem (by omega)]; rfl

set_option maxRecDepth 100000 in
set_option maxHeartbeats 16000000 in
theorem looks_any (wb : Nat) (f : Nat → Value) (col : Nat → Nat) (N : Nat) (s : LS) (w : World) (hrow : w.rowIs wb 39 14 f) (h : ListsAt w f col N s) (hN : N ≤ 2900000) :
    Calls Tryz.prog 10 #[.pointer (some ⟨wb, 0, none⟩)] w fun e w' => e = .returned (.bool true) ∧ Below w.heap.size w w' := by
  have hwl := hrow.lt
  have htb := h.tb
  have hib := h.ib
  have hlb := h.lb
  have hgl := h.gl
  have hll := h.ll
  obtain ⟨a9, p9, e9, r9⟩ := owns_read h.t
  obtain ⟨a10, p10, e10, r10⟩ := owns_read h.g
  obtain ⟨a11, p11, e11, r11⟩ := owns_read h.i
  obtain ⟨a12, p12, e12, r12⟩ := owns_read h.l
  obtain ⟨a13, p13, e13, r13⟩ := owns_read h.ls
  have hmt := h.mt
  have hmi := h.mi
  have hml := h.ml
  have d1 : w.cell? ⟨wb, 1, none⟩ = some (.bool false) := by rw [← h.bad]; exact hrow.cell (i := 1) (by omega)
  have d2 : w.cell? ⟨wb, 2, none⟩ = some (f 2) := hrow.cell (i := 2) (by omega)
  have d3 : w.cell? ⟨wb, 3, none⟩ = some (f 3) := hrow.cell (i := 3) (by omega)
  have d4 : w.cell? ⟨wb, 4, none⟩ = some (f 4) := hrow.cell (i := 4) (by omega)
  have d5 : w.cell? ⟨wb, 5, none⟩ = some (f 5) := hrow.cell (i := 5) (by omega)
  have d9 : w.cell? ⟨wb, 9, none⟩ = some (.slice a9 s.tv.length p9) := by rw [← e9]; exact hrow.cell (i := 9) (by omega)
  have d10 : w.cell? ⟨wb, 10, none⟩ = some (.slice a10 s.gv.length p10) := by rw [← e10]; exact hrow.cell (i := 10) (by omega)
  have d11 : w.cell? ⟨wb, 11, none⟩ = some (.slice a11 s.iv.length p11) := by rw [← e11]; exact hrow.cell (i := 11) (by omega)
  have d12 : w.cell? ⟨wb, 12, none⟩ = some (.slice a12 s.lv.length p12) := by rw [← e12]; exact hrow.cell (i := 12) (by omega)
  have d13 : w.cell? ⟨wb, 13, none⟩ = some (.slice a13 s.ls.length p13) := by rw [← e13]; exact hrow.cell (i := 13) (by omega)
  have hst := fun W (hb : Below w.heap.size w W) => sameTexts_below (f 2) (f 3) s.kL W h.kb (owns_below h.kt hb) (owns_below h.wt hb)
  have hsr := fun W (hb : Below w.heap.size w W) => sameRows_own (f 4) (f 5) s.M s.rv s.rv2 s.RL W h.Mb (fun i hi => (h.Lb i hi).2) (h.kr.on hb) (h.wr.on hb)
  clear e9 e10 e11 e12 e13 h hrow
  obtain ⟨v2, hv2⟩ : ∃ v, v = f 2 := ⟨_, rfl⟩
  obtain ⟨v3, hv3⟩ : ∃ v, v = f 3 := ⟨_, rfl⟩
  obtain ⟨v4, hv4⟩ : ∃ v, v = f 4 := ⟨_, rfl⟩
  obtain ⟨v5, hv5⟩ : ∃ v, v = f 5 := ⟨_, rfl⟩
  rw [← hv2] at d2 hst
  rw [← hv3] at d3 hst
  rw [← hv4] at d4 hsr
  rw [← hv5] at d5 hsr
  clear hv2 hv3 hv4 hv5
  obtain ⟨tn, htn⟩ : ∃ n, n = s.tv.length := ⟨_, rfl⟩
  obtain ⟨gn, hgn⟩ : ∃ n, n = s.gv.length := ⟨_, rfl⟩
  obtain ⟨tin, hin⟩ : ∃ n, n = s.iv.length := ⟨_, rfl⟩
  obtain ⟨ln, hln⟩ : ∃ n, n = s.lv.length := ⟨_, rfl⟩
  obtain ⟨sn, hsn⟩ : ∃ n, n = s.ls.length := ⟨_, rfl⟩
  rw [← htn] at d9 htb hgl r9 hmt
  rw [← hgn] at d10 hgl r10
  rw [← hin] at d11 hib hll r11 hmi
  rw [← hln] at d12 hll r12
  rw [← hsn] at d13 hlb r13 hml
  clear htn hgn hin hln hsn
  obtain ⟨tv, htv⟩ : ∃ v : Nat → Value, v = fun k => s.tv.getD k nilV := ⟨_, rfl⟩
  obtain ⟨gv, hgv⟩ : ∃ v : Nat → Value, v = fun k => s.gv.getD k nilV := ⟨_, rfl⟩
  obtain ⟨iv, hiv⟩ : ∃ v : Nat → Value, v = fun k => s.iv.getD k nilV := ⟨_, rfl⟩
  obtain ⟨lv, hlv⟩ : ∃ v : Nat → Value, v = fun k => s.lv.getD k nilV := ⟨_, rfl⟩
  obtain ⟨ls, hls⟩ : ∃ v : Nat → Value, v = fun k => s.ls.getD k nilV := ⟨_, rfl⟩
  have R9 : Hid (∀ i, i < tn → ∃ q, a9 = some ⟨q, 0, none⟩ ∧ q < w.heap.size ∧ w.cell? ⟨q, i, none⟩ = some (tv i)) := hide (by rw [htv]; exact r9)
  have R10 : Hid (∀ i, i < gn → ∃ q, a10 = some ⟨q, 0, none⟩ ∧ q < w.heap.size ∧ w.cell? ⟨q, i, none⟩ = some (gv i)) := hide (by rw [hgv]; exact r10)
  have R11 : Hid (∀ i, i < tin → ∃ q, a11 = some ⟨q, 0, none⟩ ∧ q < w.heap.size ∧ w.cell? ⟨q, i, none⟩ = some (iv i)) := hide (by rw [hiv]; exact r11)
  have R12 : Hid (∀ i, i < ln → ∃ q, a12 = some ⟨q, 0, none⟩ ∧ q < w.heap.size ∧ w.cell? ⟨q, i, none⟩ = some (lv i)) := hide (by rw [hlv]; exact r12)
  have R13 : Hid (∀ i, i < sn → ∃ q, a13 = some ⟨q, 0, none⟩ ∧ q < w.heap.size ∧ w.cell? ⟨q, i, none⟩ = some (ls i)) := hide (by rw [hls]; exact r13)
  have HMT : Hid (∀ k, k < tn → MarkedT w (stroke k) (tv k) (gv (3 * k)) (gv (3 * k + 1)) (gv (3 * k + 2))) := hide (by rw [htv, hgv]; exact hmt)
  have HMI : Hid (∀ k, k < tin → MarkedN w (-1 - (k : Int)) (iv k) (lv (3 * k)) (lv (3 * k + 1)) (lv (3 * k + 2))) := hide (by rw [hiv, hlv]; exact hmi)
  have HML : Hid (∀ k, k < sn → ∃ n, n ≤ 20 ∧ RowFull w 63 (ls k) n nilV) := hide (by rw [hls]; exact hml)
  clear hmt hmi hml r9 r10 r11 r12 r13 htv hgv hiv hlv hls
  have HGL := hide hgl
  have HLL := hide hll
  have gb : (gn : Int) ≤ 9000000 := by omega
  have lb : (ln : Int) ≤ 180000000 := by omega
  clear hgl hll
  go_enter Tryz.func10, Tryz.ntmps10
  go_upto_region 1 with fail
  go_cut [3] (fun s3 wc => s3 = .bool true ∧ Below w.heap.size w wc)
  case first =>
    have hbd : Below w.heap.size w w.drew := ⟨rfl, rfl, rfl, Nat.le_refl _, fun _ _ => rfl⟩
    go_region_held3 (fun w' => w'.cell? ⟨wb, 2, none⟩ = some v2 ∧ w'.cell? ⟨wb, 3, none⟩ = some v3)
      (first | (exact ⟨d2, d3⟩) | (exact ⟨r2, r3⟩) | go_keep)
      (first
        | (go_at_call 18; refine (hst _ hbd).mono ?_; rintro e w2 ⟨rfl, hb2⟩; have r2 := (hb2.cell (p := ⟨wb, 2, none⟩) hwl).trans d2; have r3 := (hb2.cell (p := ⟨wb, 3, none⟩) hwl).trans d3))
    all_goals
      go_wp2_with fail
      go_meet
      case rel => exact ⟨rfl, ⟨hb2.os, hb2.tape, hb2.output, hb2.size, hb2.block⟩⟩
  case rest =>
  obtain ⟨rfl, hb1⟩ := hcut
  obtain ⟨w1, hw1⟩ : ∃ w1, w1 = wc := ⟨_, rfl⟩
  subst hw1
  clear hst
  have k4 := (hb1.cell (p := ⟨wb, 4, none⟩) hwl).trans d4
  have k5 := (hb1.cell (p := ⟨wb, 5, none⟩) hwl).trans d5
  have hw1l : wb < w1.heap.size := Nat.lt_of_lt_of_le hwl hb1.size
  go_upto_region 2 with fail
  go_cut [4] (fun s4 wc => s4 = .bool true ∧ Below w.heap.size w wc)
  case first =>
    have hbd : Below w.heap.size w w1.drew := hb1.trans ⟨rfl, rfl, rfl, Nat.le_refl _, fun _ _ => rfl⟩
    have hbe : ∀ W, Below w1.drew.heap.size w1.drew W → Below w.heap.size w W := fun W h => hbd.trans (h.mono hbd.size)
    clear d4 d5
    go_region_held3 (fun w' => w'.cell? ⟨wb, 4, none⟩ = some v4 ∧ w'.cell? ⟨wb, 5, none⟩ = some v5)
      (first | (exact ⟨k4, k5⟩) | (exact ⟨r2, r3⟩) | go_keep)
      (first
        | (go_at_call 19; refine (hsr _ hbd).mono ?_; rintro e w2 ⟨rfl, hb2⟩; have r2 := (hb2.cell (p := ⟨wb, 4, none⟩) hw1l).trans k4; have r3 := (hb2.cell (p := ⟨wb, 5, none⟩) hw1l).trans k5))
    all_goals
      have hb3 := hbe _ hb2
      go_wp2_with fail
      go_meet
      case rel => exact ⟨rfl, hb3⟩
  case rest =>
  obtain ⟨rfl, hb2⟩ := hcut
  obtain ⟨w2, hw2⟩ : ∃ w2, w2 = wc := ⟨_, rfl⟩
  subst hw2
  clear hsr k4 k5 d2 d3 d4 d5 hb1 hw1l
  have k1 := (hb2.cell (p := ⟨wb, 1, none⟩) hwl).trans d1
  have k9 := (hb2.cell (p := ⟨wb, 9, none⟩) hwl).trans d9
  go_wp2_with fail
  clear k1 k9 d1
  go_loopw [54] (fun iv' wi => ∃ i : Nat, i ≤ tn ∧ iv' = .int .i64 (i : Int) ∧ Below w.heap.size w wi) (fun iv' _ => tn - (intOf iv').toNat)
  case atStart => exact ⟨0, Nat.zero_le _, rfl, hb2⟩
  case round =>
    obtain ⟨i, hi, rfl, hbr⟩ := hrel
    clear hb2
    by_cases hil : i < tn
    · have hgl := HGL.out
      obtain ⟨q9, rfl, hq9, c9⟩ := R9.out i hil
      obtain ⟨q10, rfl, hq10, c10⟩ := R10.out (3 * i) (by omega)
      obtain ⟨q10', hq, _, c10'⟩ := R10.out (3 * i + 1) (by omega)
      obtain ⟨q10'', hq', _, c10''⟩ := R10.out (3 * i + 2) (by omega)
      simp only [Option.some.injEq, Addr.mk.injEq, and_true] at hq hq'
      subst hq hq'
      obtain ⟨n, hn, f0, f1, f2, f3⟩ := HMT.out i hil
      generalize gv (3 * i) = g0 at *
      generalize gv (3 * i + 1) = g1 at *
      generalize gv (3 * i + 2) = g2 at *
      generalize tv i = t0 at *
      obtain ⟨j, hj⟩ : ∃ j, j = 3 * i := ⟨_, rfl⟩
      rw [← hj] at c10 c10' c10''
      have hj' : (3 : Int) * (i : Int) = (j : Int) := by omega
      have j1 : (0 : Int) ≤ (j : Int) := by omega
      have j2 : (j : Int) < (gn : Int) := by omega
      have j3 : (j : Int) + 1 < (gn : Int) := by omega
      have j4 : (j : Int) + 2 < (gn : Int) := by omega
      have i1 : (0 : Int) ≤ (i : Int) := by omega
      have i2 : (i : Int) < (tn : Int) := by omega
      clear hgl hj
      have hsk := strokes_any i wr (by omega)
      generalize stroke i = m at *
      go_wp2_with fail
      refine hsk.mono ?_
      rintro e w3 ⟨rfl, hb3⟩
      have hb03 := hbr.trans (hb3.mono hbr.size)
      clear hsk hbr hb3
      have k9 := (hb03.cell (p := ⟨wb, 9, none⟩) hwl).trans d9
      have k10 := (hb03.cell (p := ⟨wb, 10, none⟩) hwl).trans d10
      have l9 := (hb03.cell (p := ⟨q9, i, none⟩) hq9).trans c9
      have l10 := (hb03.cell (p := ⟨q10, j, none⟩) hq10).trans c10
      have l10' := (hb03.cell (p := ⟨q10, j + 1, none⟩) hq10).trans c10'
      have l10'' := (hb03.cell (p := ⟨q10, j + 2, none⟩) hq10).trans c10''
      have F0 := full_yes t0 n m w3 (by omega) (f0.on hb03)
      have F1 := full_yes g0 (n + 1) m w3 (by omega) (f1.on hb03)
      have F2 := full_yes g1 (n + 2) m w3 (by omega) (f2.on hb03)
      have F3 := full_yes g2 (n + 3) m w3 (by omega) (f3.on hb03)
      clear f0 f1 f2 f3
      go_wp2_with fail
      refine F0.mono ?_
      rintro e w4 ⟨rfl, h4⟩
      obtain rfl := h4.symm
      go_wp2_with fail
      refine F1.mono ?_
      rintro e w4 ⟨rfl, h4⟩
      obtain rfl := h4.symm
      go_wp2_with fail
      refine F2.mono ?_
      rintro e w4 ⟨rfl, h4⟩
      obtain rfl := h4.symm
      go_wp2_with fail
      refine F3.mono ?_
      rintro e w4 ⟨rfl, h4⟩
      obtain rfl := h4.symm
      clear F0 F1 F2 F3 k9 k10 l9 l10 l10' l10''
      go_wp2_with fail
      go_roundw
      case rel => exact ⟨i + 1, by omega, by go_num, hb03⟩
      case measure => simp [intOf]; omega
    · have i2 : ¬ (i : Int) < (tn : Int) := by omega
      have k11 := (hbr.cell (p := ⟨wb, 11, none⟩) hwl).trans d11
      obtain ⟨w3, hw3⟩ : ∃ w3, w3 = wr := ⟨_, rfl⟩
      subst hw3
      go_wp2_with fail
      clear k11 i2 hi hil d9 d10 R9 R10 HMT HGL gb htb
      obtain ⟨i0, hi0⟩ : ∃ i0, i0 = i := ⟨_, rfl⟩
      subst hi0
      go_loopw [120] (fun iv' wi => ∃ i : Nat, i ≤ tin ∧ iv' = .int .i64 (i : Int) ∧ Below w.heap.size w wi) (fun iv' _ => tin - (intOf iv').toNat)
      case atStart => exact ⟨0, Nat.zero_le _, rfl, hbr⟩
      case round =>
        clear hbr
        obtain ⟨i, hi, rfl, hbr⟩ := hrel
        by_cases hil : i < tin
        · have hll := HLL.out
          obtain ⟨q9, rfl, hq9, c9⟩ := R11.out i hil
          obtain ⟨q10, rfl, hq10, c10⟩ := R12.out (3 * i) (by omega)
          obtain ⟨q10', hq, _, c10'⟩ := R12.out (3 * i + 1) (by omega)
          obtain ⟨q10'', hq', _, c10''⟩ := R12.out (3 * i + 2) (by omega)
          simp only [Option.some.injEq, Addr.mk.injEq, and_true] at hq hq'
          subst hq hq'
          obtain ⟨n, hn, f0, f1, f2, f3⟩ := HMI.out i hil
          generalize lv (3 * i) = g0 at *
          generalize lv (3 * i + 1) = g1 at *
          generalize lv (3 * i + 2) = g2 at *
          generalize iv i = t0 at *
          obtain ⟨j, hj⟩ : ∃ j, j = 3 * i := ⟨_, rfl⟩
          rw [← hj] at c10 c10' c10''
          have hj' : (3 : Int) * (i : Int) = (j : Int) := by omega
          have j1 : (0 : Int) ≤ (j : Int) := by omega
          have j2 : (j : Int) < (ln : Int) := by omega
          have j3 : (j : Int) + 1 < (ln : Int) := by omega
          have j4 : (j : Int) + 2 < (ln : Int) := by omega
          have i1 : (0 : Int) ≤ (i : Int) := by omega
          have i2 : (i : Int) < (tin : Int) := by omega
          have i3 : (i : Int) ≤ 60000000 := by omega
          clear hll hj
          have k9 := (hbr.cell (p := ⟨wb, 11, none⟩) hwl).trans d11
          have k10 := (hbr.cell (p := ⟨wb, 12, none⟩) hwl).trans d12
          have l9 := (hbr.cell (p := ⟨q9, i, none⟩) hq9).trans c9
          have l10 := (hbr.cell (p := ⟨q10, j, none⟩) hq10).trans c10
          have l10' := (hbr.cell (p := ⟨q10, j + 1, none⟩) hq10).trans c10'
          have l10'' := (hbr.cell (p := ⟨q10, j + 2, none⟩) hq10).trans c10''
          have F0 := fullInts_yes t0 n (-1 - (i : Int)) wr (by omega) (f0.on hbr)
          have F1 := fullInts_yes g0 (n + 1) (-1 - (i : Int)) wr (by omega) (f1.on hbr)
          have F2 := fullInts_yes g1 (n + 2) (-1 - (i : Int)) wr (by omega) (f2.on hbr)
          have F3 := fullInts_yes g2 (n + 3) (-1 - (i : Int)) wr (by omega) (f3.on hbr)
          clear f0 f1 f2 f3 c9 c10 c10' c10''
          go_wp2_with fail
          refine F0.mono ?_
          rintro e w4 ⟨rfl, h4⟩
          obtain rfl := h4.symm
          go_wp2_with fail
          refine F1.mono ?_
          rintro e w4 ⟨rfl, h4⟩
          obtain rfl := h4.symm
          go_wp2_with fail
          refine F2.mono ?_
          rintro e w4 ⟨rfl, h4⟩
          obtain rfl := h4.symm
          go_wp2_with fail
          refine F3.mono ?_
          rintro e w4 ⟨rfl, h4⟩
          obtain rfl := h4.symm
          clear F0 F1 F2 F3 k9 k10 l9 l10 l10' l10''
          go_wp2_with fail
          go_roundw
          case rel => exact ⟨i + 1, by omega, by go_num, hbr⟩
          case measure => simp [intOf]; omega
        · have i2 : ¬ (i : Int) < (tin : Int) := by omega
          have k13 := (hbr.cell (p := ⟨wb, 13, none⟩) hwl).trans d13
          obtain ⟨w4, hw4⟩ : ∃ w4, w4 = wr := ⟨_, rfl⟩
          subst hw4
          go_wp2_with fail
          clear k13 i2 hi hil d11 d12 d13 R11 R12 HMI HLL lb hib
          obtain ⟨i1, hi1⟩ : ∃ i1, i1 = i := ⟨_, rfl⟩
          subst hi1
          go_loopw [188] (fun iv' wi => ∃ i : Nat, i ≤ sn ∧ iv' = .int .i64 (i : Int) ∧ Below w.heap.size w wi) (fun iv' _ => sn - (intOf iv').toNat)
          case atStart => exact ⟨0, Nat.zero_le _, rfl, hbr⟩
          case round =>
            clear hbr
            obtain ⟨i, hi, rfl, hbr⟩ := hrel
            by_cases hil : i < sn
            · obtain ⟨q9, rfl, hq9, c9⟩ := R13.out i hil
              obtain ⟨n, hn, f0⟩ := HML.out i hil
              obtain ⟨ao, cp, hfe, hfr⟩ := f0.read
              generalize ls i = t0 at *
              subst hfe
              have HFR := hide hfr
              have i1' : (0 : Int) ≤ (i : Int) := by omega
              have i2 : (i : Int) < (sn : Int) := by omega
              have l9 := (hbr.cell (p := ⟨q9, i, none⟩) hq9).trans c9
              clear hfr f0 c9
              go_wp2_with fail
              clear l9
              obtain ⟨w5, hw5⟩ : ∃ w5, w5 = wr := ⟨_, rfl⟩
              subst hw5
              go_loopw [194] (fun iv' wi => ∃ k : Nat, k ≤ n ∧ iv' = .int .i64 (k : Int) ∧ Below w.heap.size w wi) (fun iv' _ => n - (intOf iv').toNat)
              case atStart => exact ⟨0, Nat.zero_le _, rfl, hbr⟩
              case round =>
                clear hbr
                obtain ⟨k, hk, rfl, hbr⟩ := hrel
                by_cases hkl : k < n
                · obtain ⟨q, rfl, hq, c0⟩ := HFR.out k hkl
                  have k1 : (0 : Int) ≤ (k : Int) := by omega
                  have k2 : (k : Int) < (n : Int) := by omega
                  have l0 := (hbr.cell (p := ⟨q, k, none⟩) hq).trans c0
                  clear c0
                  go_wp2_with fail
                  go_roundw
                  case rel => exact ⟨k + 1, by omega, by go_num, hbr⟩
                  case measure => simp [intOf]; omega
                · have k2 : ¬ (k : Int) < (n : Int) := by omega
                  go_wp2_with fail
                  go_roundw
                  case rel => exact ⟨i + 1, by omega, by go_num, hbr⟩
                  case measure => simp [intOf]; omega
            · have i2 : ¬ (i : Int) < (sn : Int) := by omega
              go_wp2_with fail
              go_ret
              exact ⟨rfl, hbr⟩

end Go.Proofs.YtnjaofkieajnlaaGreat

/- The statement's own send: the program's Send against the document's. -/
namespace Go.Proofs.YtnjaofkieajnlaaGreat
open Go.RowKit

theorem packTo_len (K M O S z : Nat) (P : List ByteArray) (i : Nat) : i = (packTo K M O S z P i).length := (packTo_length K M O S z P i).symm

set_option maxRecDepth 100000 in
set_option maxHeartbeats 4000000 in
theorem lawSend_ok (K M O S z : Nat) (o : ByteArray) (w : World) (hK : 1 ≤ K ∧ K ≤ 20) (hM : 1 ≤ M ∧ M ≤ 20) (hO : 1 ≤ O ∧ O ≤ M) (hS : S ≤ 65535) (hz : 1 ≤ z ∧ z ≤ 16) (ho : o.size + 2 ≤ K * z) :
    Calls Tryz.prog 47 #[specV K M O S, .int .i64 (z : Int), .string o] w fun e w' => ∃ v, e = .returned (.tuple #[v, .bool true]) ∧ w'.ownsRow w.heap.size 9 1 v (K + M) (textV (packTo K M O S z (objWord K M O S z o) (K + M))) ∧ Below w.heap.size w w' := by
  have hs1 := fun W => send_ok K M O S z o W hK hM hO hS hz ho
  have hs2 := fun W => rsend_ok K M O S z o W hK hM hO hS hz ho
  have hL := packTo_len K M O S z (objWord K M O S z o) (K + M)
  generalize packTo K M O S z (objWord K M O S z o) (K + M) = L at *
  have hbA : Below w.heap.size w (w.alloc (specB K M O S)) := (Below.refl _ _).alloc (Nat.le_refl _) _
  have hsp : (w.alloc (specB K M O S)).heap[w.heap.size]? = some (specB K M O S) := heap_alloc_new w _
  go_enter Tryz.func47, Tryz.ntmps47
  go_wp2_with fail
  refine (hs1 _).mono ?_
  rintro e w1 ⟨v1, rfl, hown1, hb1⟩
  have hsp1 := block_on hsp hb1
  have hbw1 := hbA.trans (hb1.mono hbA.size)
  have hown1' := owns_low hown1 hbA.size
  clear hsp hb1 hs1 hown1 hbA
  obtain ⟨c0, c1, c2, c3⟩ := spec_cells hsp1
  go_wp2_with fail
  refine (hs2 _).mono ?_
  rintro e w2 ⟨v2, rfl, hown2, hb2⟩
  have hown1'' := owns_below hown1' hb2
  have hbw2 := hbw1.trans (hb2.mono hbw1.size)
  clear hsp1 hb2 hs2 hown1' hbw1 c0 c1 c2 c3
  have hst := sameTexts_yes v1 v2 L w2 (by omega) (owns_texts hown1'' hL) (owns_texts hown2 hL)
  go_wp2_with fail
  refine hst.mono ?_
  rintro e w3 ⟨rfl, hc3⟩
  have hb3 : Below w.heap.size w w3 := ((Chg.of_below hbw2 (fun _ => False)).trans hc3 (fun _ _ x => x)).below (fun _ _ x => x)
  have hown3 := owns_of_block (w' := w3) hown1'' (fun k hk => hc3.block k (hown1''.lt k hk).2 (fun f => f))
  clear hst hown1'' hown2 hbw2 hc3
  go_wp2_with fail
  go_ret2
  exact ⟨_, rfl, hown3, hb3⟩

set_option maxRecDepth 100000 in
set_option maxHeartbeats 4000000 in
theorem lawSend_err (K M O S z n : Int) (o : ByteArray) (w : World) (hn : n = 1 ∨ n = 2 ∨ n = 3) (hs1 : ∀ W, Calls Tryz.prog 77 #[specV K M O S, .int .i64 z, .string o] W fun e w' => e = .returned (.tuple #[.slice none 0 0, .int .i64 n]) ∧ Below W.heap.size W w') (hs2 : ∀ W, Calls Tryz.prog 78 #[specV K M O S, .int .i64 z, .string o] W fun e w' => e = .returned (.tuple #[.slice none 0 0, .int .i64 n]) ∧ Below W.heap.size W w') :
    Calls Tryz.prog 47 #[specV K M O S, .int .i64 z, .string o] w fun e w' => e = .returned (.tuple #[.slice none 0 0, .bool true]) ∧ Below w.heap.size w w' := by
  have hbA : Below w.heap.size w (w.alloc (.cells #[.int .i64 K, .int .i64 M, .int .i64 O, .int .i64 S] 25)) := (Below.refl _ _).alloc (Nat.le_refl _) _
  have hsp : (w.alloc (.cells #[.int .i64 K, .int .i64 M, .int .i64 O, .int .i64 S] 25)).heap[w.heap.size]? = some (.cells #[.int .i64 K, .int .i64 M, .int .i64 O, .int .i64 S] 25 (0, 0)) := heap_alloc_new w _
  rcases hn with rfl | rfl | rfl
  all_goals
    go_enter Tryz.func47, Tryz.ntmps47
    go_wp2_with fail
    refine (hs1 _).mono ?_
    rintro e w1 ⟨rfl, hb1⟩
    have hsp1 := block_on hsp hb1
    have hbw1 := hbA.trans (hb1.mono hbA.size)
    clear hsp hb1 hs1 hbA
    obtain ⟨c0, c1, c2, c3⟩ := spec_cellsI hsp1
    go_wp2_with fail
    refine (hs2 _).mono ?_
    rintro e w2 ⟨rfl, hb2⟩
    have hbw2 := hbw1.trans (hb2.mono hbw1.size)
    clear hsp1 hb2 hs2 hbw1 c0 c1 c2 c3
    go_wp2_with fail
    go_ret2
    exact ⟨rfl, hbw2⟩

/-- What send answers. -/
theorem lawSend_any (K M O S z : Int) (o : ByteArray) (w : World) (ho : o.size + 2 ≤ maxLen) :
    Calls Tryz.prog 47 #[specV K M O S, .int .i64 z, .string o] w fun e w' => ∃ v n L, e = .returned (.tuple #[v, .bool true]) ∧ w'.ownsRow w.heap.size 9 1 v n (textV L) ∧ n ≤ 40 ∧ n = L.length ∧ Below w.heap.size w w' := by
  have none_ : ∀ {n : Int}, (n = 1 ∨ n = 2 ∨ n = 3) → (∀ W, Calls Tryz.prog 106 #[specV K M O S, .int .i64 z, .string o] W fun e w' => e = .returned (.tuple #[.slice none 0 0, .int .i64 n]) ∧ Below W.heap.size W w') → (∀ W, Calls Tryz.prog 78 #[specV K M O S, .int .i64 z, .string o] W fun e w' => e = .returned (.tuple #[.slice none 0 0, .int .i64 n]) ∧ Below W.heap.size W w') →
      Calls Tryz.prog 47 #[specV K M O S, .int .i64 z, .string o] w fun e w' => ∃ v n L, e = .returned (.tuple #[v, .bool true]) ∧ w'.ownsRow w.heap.size 9 1 v n (textV L) ∧ n ≤ 40 ∧ n = L.length ∧ Below w.heap.size w w' := fun hn h1 h2 =>
    (lawSend_err K M O S z _ o w hn (fun W => send_err K M O S z _ o W h1) h2).mono fun _ _ ⟨he, hb⟩ => ⟨_, 0, [], he, World.ownsRow_nil _ _ _ _, by omega, rfl, hb⟩
  cases hmay : mayB K M O S
  · exact none_ (Or.inl rfl) (fun W => osend_bad K M O S z o W hmay) (fun W => rsend_bad K M O S z o W hmay)
  · by_cases hz : 1 ≤ z ∧ z ≤ 16
    · obtain ⟨k, m, q, s, rfl, rfl, rfl, rfl, hK, hM, hO, hS⟩ := may_nats hmay
      obtain ⟨zn, rfl⟩ : ∃ zn : Nat, z = (zn : Int) := ⟨z.toNat, by omega⟩
      have hz' : 1 ≤ zn ∧ zn ≤ 16 := by omega
      by_cases hsz : o.size + 2 ≤ k * zn
      · exact (lawSend_ok k m q s zn o w hK hM hO hS hz' hsz).mono fun _ _ ⟨v, he, hown, hb⟩ => ⟨v, _, _, he, hown, by omega, packTo_len _ _ _ _ _ _ _, hb⟩
      · exact none_ (Or.inr (Or.inr rfl)) (fun W => osend_shape k m q s zn o W hmay hz' (by omega)) (fun W => rsend_shape k m q s zn o W hmay hz' (by omega) ho)
    · have hz' : z < 1 ∨ (1 ≤ z ∧ 16 < z) := by omega
      exact none_ (Or.inr (Or.inl rfl)) (fun W => osend_arg K M O S z o W hmay hz') (fun W => rsend_arg K M O S z o W hmay hz')

end Go.Proofs.YtnjaofkieajnlaaGreat

/- The program's large objects: the sheets of all parts. -/
namespace Go.Proofs.YtnjaofkieajnlaaGreat
open Go.RowKit

theorem run_make_mul (a b : Nat) (hn : a * b ≤ 1000000) (w : World) : (Instr.makeSlice 27 (.int .i64 0) (.int .i64 ((a : Int) * (b : Int)))).run Tryz.prog w = .ok (.slice (some ⟨w.heap.size, 0, none⟩) 0 (a * b)) (w.alloc (.cells (madeCells #[.string ByteArray.empty] (a * b)) 9)) := by
  have h := run_make_texts (a * b) hn w
  rw [show ((a * b : Nat) : Int) = (a : Int) * (b : Int) by simp] at h
  exact h

set_option maxRecDepth 100000 in
set_option maxHeartbeats 8000000 in
theorem lsheets_any (K M O S z : Nat) (t : ByteArray) (c : Nat) (v : Value) (w : World) (h : SpecOk K M O S z) (h3 : 3 ≤ K * z) (hc : c = partsN t (K * z - 2)) (hc2 : c ≤ 20) (hL : TextsAt w v (cutL t (K * z - 2) c)) :
    Calls Tryz.prog 121 #[specV K M O S, .int .i64 (z : Int), v] w fun e w' => ∃ v', e = .returned (.tuple #[v', .int .i64 0]) ∧ w'.ownsRow w.heap.size 9 1 v' (c * (K + M)) (textV (sheetsTo K M O S z c t c)) ∧ Below w.heap.size w w' := by
  obtain ⟨hK, hM, hO, hS, hz⟩ := h
  obtain ⟨n, hn⟩ : ∃ n, n = K * z - 2 := ⟨_, rfl⟩
  have hn1 : 1 ≤ n := by omega
  have hc1 : 1 ≤ c := by rw [hc]; exact partsN_pos t _ (by omega)
  have hse := fun p (hp : p < c) W => osend_ok K M O S z (partT t n p) W hK hM hO hS hz (by have := (partT_in t n p hn1 (by rw [hn, ← hc]; exact hp)).2; omega)
  have hsz : ∀ p, p < c → (partT t n p).size + 2 ≤ K * z := fun p hp => by have := (partT_in t n p hn1 (by rw [hn, ← hc]; exact hp)).2; omega
  have hst : ∀ p, sheetsTo K M O S z c t (p + 1) = sheetsTo K M O S z c t p ++ sheetTo p c (packTo K M O S z (objWord K M O S z (partT t n p)) (K + M)) (K + M) := fun p => by
    show sheetsTo K M O S z c t p ++ sheetTo p c (partL K M O S z t p) (K + M) = _
    unfold partL
    rw [← hn]
  have hlen := fun p => sheetsTo_length K M O S z c t p
  obtain ⟨ao, cap, rfl, hcap, hT⟩ := hL
  rw [cutL_length] at hcap hT ⊢
  rw [← hn] at hT
  have hT2 : ∀ k, k < c → ∃ q o, ao = some ⟨q, o, none⟩ ∧ q < w.heap.size ∧ w.cell? ⟨q, o + k, none⟩ = some (.string (partT t n k)) := fun k hk => by
    obtain ⟨q, o, e1, e2, e3⟩ := hT k hk
    exact ⟨q, o, e1, e2, by rw [e3, cutL_getD _ _ _ _ hk]⟩
  have hcb : c * (K + M) ≤ 800 := Nat.le_trans (Nat.mul_le_mul hc2 (show K + M ≤ 40 by omega)) (by decide)
  have hmk := run_make_mul c (K + M) (by omega)
  rw [show ((K + M : Nat) : Int) = (K : Int) + (M : Int) by omega] at hmk
  have m1 : 0 ≤ (c : Int) * ((K : Int) + (M : Int)) := Int.mul_nonneg (by omega) (by omega)
  have m2 : (c : Int) * ((K : Int) + (M : Int)) ≤ 800 := by
    have : (c : Int) * ((K : Int) + (M : Int)) = ((c * (K + M) : Nat) : Int) := by simp
    omega
  have HT := hide hT2
  have Hst := hide hst
  have Hlen := hide hlen
  clear hT hT2 hst hlen hn hc
  obtain ⟨j0, gi, gz0, gz1, gz2⟩ := info_parts Tryz.infoText
  have hsp : (w.alloc (specB K M O S)).heap[w.heap.size]? = some (specB K M O S) := heap_alloc_new w _
  have hbA : Below w.heap.size w (w.alloc (specB K M O S)) := (Below.refl _ _).alloc (Nat.le_refl _) _
  have hcell : ∀ k, k < c → ∃ q o, ao = some ⟨q, o, none⟩ ∧ q < w.heap.size := fun k hk => by
    obtain ⟨q, o, e1, e2, _⟩ := HT.out k hk
    exact ⟨q, o, e1, e2⟩
  obtain ⟨q, o, rfl, hq⟩ := hcell 0 (by omega)
  clear hcell
  obtain ⟨c0, c1, _, _⟩ := spec_cells hsp
  go_enter Tryz.func121, Tryz.ntmps121
  generalize hWA : w.alloc (specB K M O S) = WA at *
  have hsA : w.heap.size < WA.heap.size := (Array.getElem?_eq_some_iff.1 hsp).1
  go_upto_region 2 with fail
  have hst0 : (WA.alloc (.cells (madeCells #[.string ByteArray.empty] (c * (K + M))) 9)).ownsRow (w.heap.size + 1) 9 1 (.slice (some ⟨WA.heap.size, 0, none⟩) 0 (c * (K + M))) 0 (textV (sheetsTo K M O S z c t 0)) := World.ownsRow_made (base := w.heap.size + 1) (e := 9) (size := 1) WA (madeCells #[.string ByteArray.empty] (c * (K + M))) (c * (K + M)) (by omega) (by unfold maxLen; omega) (by simp [size_madeCells])
  have hbS : Below w.heap.size w (WA.alloc (.cells (madeCells #[.string ByteArray.empty] (c * (K + M))) 9)) := hbA.alloc hbA.size _
  have hsS : (WA.alloc (.cells (madeCells #[.string ByteArray.empty] (c * (K + M))) 9)).heap[w.heap.size]? = some (specB K M O S) := by rw [heap_alloc_old _ _ hsA]; exact hsp
  generalize WA.alloc (.cells (madeCells #[.string ByteArray.empty] (c * (K + M))) 9) = WB at *
  clear hmk m1 m2 hsp hbA c0 c1 hWA hsA
  go_wp2_with fail
  go_loopw [8, 27] (fun av pv wr => ∃ p : Nat, p ≤ c ∧ pv = .int .i64 (p : Int) ∧ wr.ownsRow (w.heap.size + 1) 9 1 av (sheetsTo K M O S z c t p).length (textV (sheetsTo K M O S z c t p)) ∧ wr.heap[w.heap.size]? = some (specB K M O S) ∧ Below w.heap.size w wr) (fun _ pv _ => c - (intOf pv).toNat)
  case atStart => exact ⟨0, Nat.zero_le _, rfl, hst0, hsS, hbS⟩
  case round =>
    clear hst0 hsS hbS
    obtain ⟨p, hpc, rfl, hown, hsr, hbr⟩ := hrel
    have hszr : w.heap.size < wr.heap.size := (Array.getElem?_eq_some_iff.1 hsr).1
    have hlp := Hlen.out p
    have hlb : (sheetsTo K M O S z c t p).length ≤ 800 := by rw [hlp]; exact Nat.le_trans (Nat.mul_le_mul (show p ≤ 20 by omega) (show K + M ≤ 40 by omega)) (by decide)
    clear hlp
    by_cases hlt : p < c
    · have hs := hse p hlt
      obtain ⟨q', o', e1, _, ht0⟩ := HT.out p hlt
      simp only [Option.some.injEq, Addr.mk.injEq, and_true] at e1
      obtain ⟨rfl, rfl⟩ := e1
      have ht1 := (hbr.cell (p := ⟨q, o + p, none⟩) hq).trans ht0
      have hstp := Hst.out p
      have hLl := packTo_length K M O S z (objWord K M O S z (partT t n p)) (K + M)
      have hLs := fun i (hi : i < K + M) => packTo_sizes (K := K) (M := M) (O := O) (S := S) (z := z) (o := partT t n p) (hsz p hlt) hi
      generalize packTo K M O S z (objWord K M O S z (partT t n p)) (K + M) = L at *
      generalize partT t n p = pt at *
      have Hstp := hide hstp
      clear hstp ht0
      obtain ⟨c0, c1, c2, c3⟩ := spec_cells hsr
      obtain ⟨all0, hall0⟩ : ∃ l, l = sheetsTo K M O S z c t p := ⟨_, rfl⟩
      rw [← hall0] at hown hlb Hstp
      clear hall0
      have i1 : (0 : Int) ≤ (p : Int) := by omega
      have i2 : (p : Int) < (c : Int) := by omega
      go_wp2_with fail
      refine (hs _).mono ?_
      rintro e w3 ⟨v3, rfl, hown3, hb3⟩
      obtain ⟨g, gcap, rfl, hg, hgl⟩ := hown3.form (by omega)
      have hTc : ∀ k, k < K + M → w3.cell? ⟨g, k, none⟩ = some (.string (L.getD k ByteArray.empty)) := fun k hk => by
        have := hown3.cells (g := g) rfl k (.string (L.getD k ByteArray.empty)) (by unfold textV; rw [List.getElem?_map, List.getElem?_eq_getElem (by omega), List.getD_eq_getElem?_getD, List.getElem?_eq_getElem (by omega)]; rfl)
        rwa [Addr.add_mid, Nat.zero_add] at this
      have hown4 : w3.ownsRow (w.heap.size + 1) 9 1 u8 all0.length (textV all0) := owns_below hown hb3
      have hs3 : w3.heap[w.heap.size]? = some (specB K M O S) := block_on hsr hb3
      have hbr3 : Below w.heap.size w w3 := hbr.trans (hb3.mono hbr.size)
      have hub : ∀ k, u8.ownBlock = some k → w.heap.size + 1 ≤ k ∧ k < g := fun k hk => by
        have h1 := hown.lt k hk
        have h2 : wr.heap.size ≤ g := hg
        omega
      have hsz3 : wr.heap.size ≤ w3.heap.size := hb3.size
      obtain ⟨ob, hob⟩ : ∃ ob, ob = u8.ownBlock := ⟨_, rfl⟩
      rw [← hob] at hub
      have HTc := hide hTc
      have HLs := hide hLs
      clear hTc hLs c0 c1 c2 c3 hown3 hb3 hown hsr hbr hs ht1
      go_wp2_with fail
      go_loopw [8, 44] (fun av iv wi => ∃ i : Nat, i ≤ K + M ∧ iv = .int .i64 (i : Int) ∧ wi.ownsRow (w.heap.size + 1) 9 1 av (all0.length + i) (textV (all0 ++ sheetTo p c L i)) ∧ (∀ k, av.ownBlock = some k → ob = some k ∨ w3.heap.size ≤ k) ∧ Chg (fun k => ob = some k) w3 wi) (fun _ iv _ => K + M - (intOf iv).toNat)
      case atStart => exact ⟨0, Nat.zero_le _, rfl, by show w3.ownsRow _ _ _ _ _ (textV (all0 ++ [])); rw [List.append_nil]; exact hown4, fun k hk => Or.inl (by rw [hob]; exact hk), Chg.refl _ _⟩
      case round =>
        clear hown4 hob
        obtain ⟨i, hi, rfl, hown, hav, hcg⟩ := hrel
        have hwis := hcg.size
        by_cases hil : i < K + M
        · have ht1 := (hcg.cell (a := ⟨g, i, none⟩) hgl (fun e => by have := hub g e; omega)).trans (HTc.out i hil)
          have hls := HLs.out i hil
          have hsn : all0 ++ sheetTo p c L (i + 1) = (all0 ++ sheetTo p c L i) ++ [sheetB p c (L.getD i ByteArray.empty)] := by rw [List.append_assoc]; rfl
          have Hsn := hide hsn
          clear hsn
          generalize L.getD i ByteArray.empty = pk at *
          have hpk : pk.size ≤ 25 := by omega
          have htx := fun W => ltext_any p c pk W (by omega) (by omega) (by omega)
          clear hls
          generalize sheetB p c pk = T at *
          have i1 : (0 : Int) ≤ (i : Int) := by omega
          have i2 : (i : Int) < (K : Int) + (M : Int) := by omega
          go_wp2_with fail
          refine (htx _).mono ?_
          rintro e w6 ⟨rfl, hb6⟩
          have hown6 := owns_below hown hb6
          have hw6 := hb6.size
          have hcg6 : Chg (fun k => ob = some k) w3 w6 := hcg.trans (Chg.of_below hb6 _) (fun _ _ s => s)
          clear htx ht1 hown hcg
          go_wp2_with (at_builtin; refine wpList_append_lies _ rfl (.tmp 53) (.tmp 55) 27 rfl (w.heap.size + 1) 9 j0 (.string ByteArray.empty) 1 16 Tryz.underlying27 gi gz0 gz1 gz2 rfl (by decide) _ _ _ rfl (hown6.alloc _) ⟨w6.heap.size, 0, none⟩ 1 1 [.string T] rfl rfl (one_news _ _ _) (one_oneCell rfl) (by decide) (by unfold maxLen; omega) (by omega) (by simp; omega) (w6.heap.size + 1) (by simp) ?_)
          intro g5 cap5 w5 hown5 hgr5 hat5 hlt5
          have hgr := grownBy_of_alloc hgr5
          have hcg5 : Chg (fun k => ob = some k) w3 w5 := hcg6.grown hgr (fun k e => by
            rcases hav k e with h | h
            · exact Or.inr h
            · exact Or.inl h)
          have hav5 : ∀ k, (Value.slice (some ⟨g5, 0, none⟩) (all0.length + i + 1) cap5).ownBlock = some k → ob = some k ∨ w3.heap.size ≤ k := fun k hk => by
            have hk' : g5 = k := by simpa [Value.ownBlock] using hk
            rcases hat5 with h | h
            · exact hav k (by rw [h, hk'])
            · right; omega
          clear hown6 hcg6 hgr5 hgr hat5 hav
          go_wp2_with fail
          go_roundw
          case rel => exact ⟨i + 1, by omega, by go_num, by rw [Hsn.out, textV_append]; exact hown5, hav5, hcg5⟩
          case measure => simp [intOf]; omega
        · have hii : i = K + M := by omega
          have hbwi : Below w.heap.size w wr := chg_under2 hbr3 hcg (fun k e => by have := hub k e; omega)
          have hsi : wr.heap[w.heap.size]? = some (specB K M O S) := (hcg.block _ (by omega) (fun e => by have := hub _ e; omega)).trans hs3
          rw [hii, ← Hstp.out] at hown
          have hlen2 : all0.length + (K + M) = (sheetsTo K M O S z c t (p + 1)).length := by rw [Hstp.out, List.length_append, sheetTo_length]
          rw [hlen2] at hown
          clear hlen2
          have i5 : ¬ (i : Int) < (K : Int) + (M : Int) := by omega
          clear hcg hii hav hi hil
          go_wp2_with fail
          go_roundw
          case rel => exact ⟨p + 1, by omega, by go_num, hown, hsi, hbwi⟩
          case measure => simp [intOf]; omega
    · have hpc2 : p = c := by omega
      have i5 : ¬ (p : Int) < (c : Int) := by omega
      have hlp := Hlen.out p
      have hown9 : wr.ownsRow w.heap.size 9 1 u8 (c * (K + M)) (textV (sheetsTo K M O S z c t c)) := by
        rw [hlp, hpc2] at hown
        exact owns_low hown (Nat.le_succ _)
      clear hown hlp hlb hpc2 Hlen Hst
      go_wp2_with fail
      go_ret2
      exact ⟨_, rfl, hown9, hbr⟩

end Go.Proofs.YtnjaofkieajnlaaGreat
