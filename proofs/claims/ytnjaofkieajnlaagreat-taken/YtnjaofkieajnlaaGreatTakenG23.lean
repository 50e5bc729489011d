/- Texts of the proof, part 24. -/
import Derived.Test.YtnjaofkieajnlaaGreatTakenG20
import Derived.Test.YtnjaofkieajnlaaGreatTakenG22

/- The program's inbox: the parts joined; Whole. -/
namespace Go.Proofs.YtnjaofkieajnlaaGreat
open Go.RowKit

/-- Bytes that the call owns, also none, as a text. -/
theorem conv_owned (B : ByteArray) (v : Value) (n base : Nat) (w : World) (h : w.ownsRow base 5 1 v n (bytesV B)) (hn : n = B.size) : (convert 106 9 v).run Tryz.prog w = .ok (.string B) w := by
  subst hn
  rcases h.2 with ⟨rfl, h1⟩ | ⟨g, cap, cur, rfl, _⟩
  · have hB : B = ByteArray.empty := ByteArray.size_eq_zero_iff.1 h1
    rw [hB]
    exact run_convert_bytes_nil (P := Tryz.prog) w 106 5 Tryz.underlying106 Tryz.underlying5 0 0 9 Tryz.underlying9
  · have hcell := h.cells (g := g) rfl
    have hcells : ∀ j, j < B.size → w.cell? ⟨g, 0 + j, none⟩ = some (.int .u8 ((numsB B).getD j 0)) := fun j hj => by
      rw [numsB_getD, ← Addr.add_mid]
      exact hcell j _ (bytesV_getElem B j hj)
    have hcv := run_convert_bytes_arg (P := Tryz.prog) w 106 5 Tryz.underlying106 Tryz.underlying5 g 0 B.size cap (numsB B) (numsB_length B) hcells 9 Tryz.underlying9
    rw [strOfNums_numsB] at hcv
    exact hcv

theorem objText_size (t : ByteArray) : (objText t).size ≤ t.size := by
  unfold objText
  split
  · rw [ByteArray.size_extract]; omega
  · exact Nat.zero_le _

/-- The objects of the first data, and these joined. -/
def objL (D : List ByteArray) (n : Nat) : List ByteArray := (List.range n).map (fun i => objText (D.getD i ByteArray.empty))

def objW (D : List ByteArray) : Nat → ByteArray
  | 0 => ByteArray.empty
  | i + 1 => objW D i ++ objText (D.getD i ByteArray.empty)

theorem objL_length (D : List ByteArray) (n : Nat) : (objL D n).length = n := by simp [objL]

theorem objL_succ (D : List ByteArray) (n : Nat) : objL D (n + 1) = objL D n ++ [objText (D.getD n ByteArray.empty)] := by
  unfold objL
  rw [List.range_succ, List.map_append]; rfl

theorem objW_size (D : List ByteArray) (hD : ∀ i, (D.getD i ByteArray.empty).size ≤ 320) (n : Nat) : (objW D n).size ≤ n * 320 := by
  induction n with
  | zero => exact Nat.le_refl _
  | succ n ih =>
    show (objW D n ++ _).size ≤ _
    rw [ByteArray.size_append, Nat.succ_mul]
    have := objText_size (D.getD n ByteArray.empty)
    have := hD n
    omega

/-- Whether the data are those of a large object's parts. -/
def joinOk (D : List ByteArray) (n c : Nat) : Prop := (∀ i, i < c → objOk (D.getD i ByteArray.empty) = true) ∧ cutL (objW D c) n (partsN (objW D c) n) = objL D c

set_option maxRecDepth 100000 in
set_option maxHeartbeats 4000000 in
theorem ljoined_small (v : Value) (r : Int) (w : World) (hr : r < 1) :
    Calls Tryz.prog 102 #[v, .int .i64 r] w fun e w' => e = .returned (.tuple #[.string ⟨#[]⟩, .int .i64 8]) ∧ Below w.heap.size w w' := by
  go_enter Tryz.func102, Tryz.ntmps102
  go_wp2_with fail
  go_ret2
  exact ⟨rfl, Below.refl _ _⟩

theorem run_make_bytemul (a b : Nat) (hn : a * b ≤ 1000000) (w : World) : (Instr.makeSlice 106 (.int .i64 0) (.int .i64 ((a : Int) * (b : Int)))).run Tryz.prog w = .ok (.slice (some ⟨w.heap.size, 0, none⟩) 0 (a * b)) (w.alloc (.cells (madeCells #[.int .u8 0] (a * b)) 5)) := by
  have h := run_make_byteRow (a * b) hn w
  rw [show ((a * b : Nat) : Int) = (a : Int) * (b : Int) by simp] at h
  exact h

set_option maxRecDepth 100000 in
set_option maxHeartbeats 8000000 in
theorem ljoined_any (v : Value) (D : List ByteArray) (n c : Nat) (w : World) (hn : 1 ≤ n ∧ n ≤ 1000) (hDl : D.length = c) (hc : c ≤ 20) (hD : ∀ i, (D.getD i ByteArray.empty).size ≤ 320) (hT : TextsAt w v D) :
    Calls Tryz.prog 102 #[v, .int .i64 (n : Int)] w fun e w' => ((joinOk D n c → e = .returned (.tuple #[.string (objW D c), .int .i64 0])) ∧ (¬ joinOk D n c → e = .returned (.tuple #[.string ⟨#[]⟩, .int .i64 8]))) ∧ Below w.heap.size w w' := by
  obtain ⟨i0, hi0, hz0, hz1, hz2⟩ := info_parts Tryz.infoByte
  obtain ⟨j0, gi, gz0, gz1, gz2⟩ := info_parts Tryz.infoText
  obtain ⟨ao, cap, rfl, hcap, hT⟩ := hT
  rw [hDl] at hcap hT ⊢
  have hcn : c * n ≤ 20000 := Nat.le_trans (Nat.mul_le_mul hc hn.2) (by decide)
  have hmk2 := run_make_bytemul c n (by omega)
  have m1 : 0 ≤ (c : Int) * (n : Int) := Int.mul_nonneg (by omega) (by omega)
  have m2 : (c : Int) * (n : Int) ≤ 20000 := by
    have : (c : Int) * (n : Int) = ((c * n : Nat) : Int) := by simp
    omega
  have hmk := run_make_texts c (by omega)
  have hws := objW_size D hD
  have hrd := fun i W => oread_any (D.getD i ByteArray.empty) W (by have := hD i; omega)
  have hos : ∀ i, (objText (D.getD i ByteArray.empty)).size ≤ 320 := fun i => Nat.le_trans (objText_size _) (hD i)
  have HT := hide hT
  have HWS := hide hws
  have HRD := hide hrd
  have HOS := hide hos
  clear hT hws hrd hDl hos
  go_enter Tryz.func102, Tryz.ntmps102
  have n1 : ¬ (n : Int) < 1 := by omega
  go_upto_region 4 with fail
  have hst : (w.alloc (.cells (madeCells #[.string ByteArray.empty] c) 9)).ownsRow w.heap.size 9 1 (.slice (some ⟨w.heap.size, 0, none⟩) 0 c) 0 (textV (objL D 0)) := World.ownsRow_made (base := w.heap.size) (e := 9) (size := 1) w (madeCells #[.string ByteArray.empty] c) c (Nat.le_refl _) (by unfold maxLen; omega) (by simp [size_madeCells])
  have hbS : Below w.heap.size w (w.alloc (.cells (madeCells #[.string ByteArray.empty] c) 9)) := (Below.refl _ _).alloc (Nat.le_refl _) _
  generalize w.alloc (.cells (madeCells #[.string ByteArray.empty] c) 9) = W at *
  clear hmk
  go_upto_region 5 with fail
  have hst2 : (W.alloc (.cells (madeCells #[.int .u8 0] (c * n)) 5)).ownsRow w.heap.size 5 1 (.slice (some ⟨W.heap.size, 0, none⟩) 0 (c * n)) (objW D 0).size (bytesV (objW D 0)) := World.ownsRow_made (base := w.heap.size) (e := 5) (size := 1) W (madeCells #[.int .u8 0] (c * n)) (c * n) hbS.size (by unfold maxLen; omega) (by simp [size_madeCells])
  have hst3 := hst.alloc (.cells (madeCells #[.int .u8 0] (c * n)) 5)
  have hbS2 := hbS.alloc hbS.size (.cells (madeCells #[.int .u8 0] (c * n)) 5)
  generalize W.alloc (.cells (madeCells #[.int .u8 0] (c * n)) 5) = W2 at *
  clear hmk2 m1 m2 hst hbS
  generalize c * n = cn at *
  go_wp2_with fail
  go_loopw [6, 7, 26] (fun pv bv iv wr => ∃ i : Nat, i ≤ c ∧ iv = .int .i64 (i : Int) ∧ (∀ j, j < i → objOk (D.getD j ByteArray.empty) = true) ∧ wr.ownsRow w.heap.size 9 1 pv i (textV (objL D i)) ∧ wr.ownsRow w.heap.size 5 1 bv (objW D i).size (bytesV (objW D i)) ∧ Below w.heap.size w wr) (fun _ _ iv _ => c - (intOf iv).toNat)
  case atStart => exact ⟨0, Nat.zero_le _, rfl, fun j h => absurd h (Nat.not_lt_zero _), hst3, hst2, hbS2⟩
  case round =>
    clear hst3 hst2 hbS2
    obtain ⟨i, hi, rfl, hall, hop, hob, hbr⟩ := hrel
    have HA := hide hall
    clear hall
    have hsw := hbr.size
    have hwz : (objW D i).size ≤ 6400 := Nat.le_trans (HWS.out i) (Nat.le_trans (Nat.mul_le_mul_right 320 (show i ≤ 20 by omega)) (by decide))
    by_cases hlt : i < c
    · obtain ⟨q, o, rfl, hq, t1⟩ := HT.out i hlt
      have r1 := (hbr.cell (p := ⟨q, o + i, none⟩) hq).trans t1
      have hr := HRD.out i
      have ho := HOS.out i
      have hsu : objL D (i + 1) = objL D i ++ [objText (D.getD i ByteArray.empty)] := objL_succ D i
      have hsw2 : objW D (i + 1) = objW D i ++ objText (D.getD i ByteArray.empty) := rfl
      have HS1 := hide hsu
      have HS2 := hide hsw2
      have i1 : (0 : Int) ≤ (i : Int) := by omega
      have i2 : (i : Int) < (c : Int) := by omega
      clear t1 hsu hsw2
      cases hk : objOk (D.getD i ByteArray.empty) with
      | true =>
        have HK := hide hk
        clear hk
        obtain ⟨d, hd⟩ : ∃ d, d = D.getD i ByteArray.empty := ⟨_, rfl⟩
        obtain ⟨x, hx⟩ : ∃ x, x = objText (D.getD i ByteArray.empty) := ⟨_, rfl⟩
        rw [← hx] at hr ho HS1 HS2
        rw [← hd] at r1 hr
        have hK2 : objOk d = true := by rw [hd]; exact HK.out
        have HK2 := hide hK2
        clear hK2 hx hd
        go_wp2_with fail
        refine (hr _).mono ?_
        rintro e w1 ⟨⟨h1, h2⟩, hb1⟩
        rw [h1 HK2.out]
        have hbw1 := hbr.trans (hb1.mono hbr.size)
        have hop1 := owns_below hop hb1
        have hob1 := owns_below hob hb1
        have hsw1 := hbw1.size
        clear h1 h2 hr r1 hop hob hbr hb1
        go_wp2_with (at_builtin; refine wpList_append_lies _ rfl (.tmp 38) (.tmp 40) 27 rfl w.heap.size 9 j0 (.string ByteArray.empty) 1 16 Tryz.underlying27 gi gz0 gz1 gz2 rfl (by decide) _ _ _ rfl (hop1.alloc _) ⟨w1.heap.size, 0, none⟩ 1 1 [.string x] rfl rfl (one_news _ _ _) (one_oneCell rfl) (by decide) (by unfold maxLen; omega) (by omega) (by simp; omega) (w1.heap.size + 1) (by simp) ?_)
        intro g6 k6 W6 hown6 hgr6 hat6 hlt6
        have hgr := grownBy_of_alloc hgr6
        have hb6 := below_own hop1 hgr6 hsw1
        have hbi6 := hbw1.trans hb6
        have hob6 : W6.ownsRow w.heap.size 5 1 u7 (objW D i).size (bytesV (objW D i)) := hob1.kept hgr (by
          cases hx : u7.ownBlock with
          | none => exact Or.inl rfl
          | some k =>
            right
            intro e
            obtain ⟨cu, hcu⟩ := owns_block hob1 hx
            exact owns_other hop1 hcu (by decide) e.symm)
        have hsw6 := hbi6.size
        clear hgr6 hat6 hb6 hbw1 hop1 hob1 hgr
        go_wp2_with (at_builtin; refine Go.Lib.wpList_append_own_string _ rfl (.tmp 42) (.tmp 43) 106 9 rfl w.heap.size 5 i0 Tryz.underlying106 Tryz.underlying9 hi0 hz0 hz1 hz2 _ _ _ rfl hob6 x rfl (by unfold maxLen; omega) (by omega) (by omega) ?_)
        intro v5 w5 hown5 hgr5 _
        have hb5 : Below w.heap.size w w5 := hbi6.grown hgr5 hbi6.size (fun k e => (hob6.lt k e).1)
        rw [bytesV_str, ← bytesV_app] at hown5
        have hop5 := hown6.kept hgr5 (by
          right
          intro e
          obtain ⟨cu, hcu⟩ := owns_block hown6 (k := g6) rfl
          exact owns_other hob6 hcu (by decide) (by rw [← e]; rfl))
        clear hgr5 hob6 hown6 hbi6
        go_wp2_with fail
        go_roundw
        case rel => exact ⟨i + 1, by omega, by go_num, fun j hj => by
            by_cases e : j < i
            · exact HA.out j e
            · have : j = i := by omega
              rw [this]; exact HK.out, by rw [HS1.out, textV_append]; exact hop5, by rw [HS2.out, ByteArray.size_append]; exact hown5, hb5⟩
        case measure => simp [intOf]; omega
      | false =>
        have HN := hide (show ¬ joinOk D n c from fun h => by rw [h.1 i hlt] at hk; cases hk)
        have HK := hide hk
        clear hk
        go_wp2_with fail
        refine (hr _).mono ?_
        rintro e w1 ⟨⟨h1, h2⟩, hb1⟩
        rw [h2 HK.out]
        have hbw1 := hbr.trans (hb1.mono hbr.size)
        clear h1 h2 hr r1 hop hob hbr hb1
        go_wp2_with fail
        go_ret2
        exact ⟨⟨fun h => absurd h HN.out, fun _ => rfl⟩, hbw1⟩
    · have hic : i = c := by omega
      have i2 : ¬ (i : Int) < (c : Int) := by omega
      rw [hic] at hop hob hwz
      have HA2 := hide (show ∀ j, j < c → objOk (D.getD j ByteArray.empty) = true from fun j hj => HA.out j (by omega))
      have hcv := conv_owned (objW D c) u7 _ _ wr hob rfl
      have hcu := fun W => lcut_any (objW D c) n W hn (by omega)
      have hjo : joinOk D n c ↔ cutL (objW D c) n (partsN (objW D c) n) = objL D c := ⟨fun h => h.2, fun h => ⟨HA2.out, h⟩⟩
      have hcl := cutL_length (objW D c) n (partsN (objW D c) n)
      have hpn : partsN (objW D c) n ≤ 6401 := by
        unfold partsN
        split
        · omega
        · have := Nat.div_le_self ((objW D c).size + n - 1) n
          rw [Nat.div_le_iff_le_mul_add_pred (by omega)]
          have : (objW D c).size ≤ n * (objW D c).size := Nat.le_mul_of_pos_left _ (by omega)
          have : n * (objW D c).size ≤ n * 6401 := Nat.mul_le_mul_left n (by omega)
          omega
      have hll := objL_length D c
      obtain ⟨X, hX⟩ : ∃ X, X = objW D c := ⟨_, rfl⟩
      obtain ⟨C, hC⟩ : ∃ C, C = cutL (objW D c) n (partsN (objW D c) n) := ⟨_, rfl⟩
      obtain ⟨pn, hpN⟩ : ∃ pn, pn = partsN (objW D c) n := ⟨_, rfl⟩
      rw [← hC] at hcl hjo hcu
      rw [← hpN] at hcl hpn hcu
      rw [← hX] at hcv hcu
      have htp := owns_texts hop hll.symm
      have HJ := hide hjo
      have HX := hide hX
      have HCL := hide hcl
      have Hic := hide hic
      clear hjo hX hC hpN hic hlt hcl hop hob hwz hll HRD HWS HT
      go_wp2_with fail
      refine (hcu _).mono ?_
      rintro e w1 ⟨v1, rfl, hown1, hb1⟩
      have hbw1 := hbr.trans (hb1.mono hbr.size)
      have htp1 := htp.on hb1
      have htc := owns_texts hown1 HCL.out.symm
      have hsm := lsame_any v1 u6 C (objL D c) w1 (by rw [HCL.out]; omega) htc htp1
      clear hcu hown1 hb1 htp htp1 htc hbr
      go_wp2_with fail
      refine hsm.mono ?_
      rintro e w2 ⟨h1, h2, hb2⟩
      have hbw2 := hbw1.trans (hb2.mono hbw1.size)
      clear hsm hb2 hbw1
      by_cases hj : C = objL D c
      · rw [h1 hj]
        have HJJ := hide (HJ.out.2 hj)
        clear h1 h2 hj
        go_wp2_with fail
        go_ret2
        exact ⟨⟨fun _ => by rw [← HX.out]; rfl, fun h => absurd HJJ.out h⟩, hbw2⟩
      · rw [h2 hj]
        have HJJ := hide (show ¬ joinOk D n c from fun h => hj (HJ.out.1 h))
        clear h1 h2 hj
        go_wp2_with fail
        go_ret2
        exact ⟨⟨fun h => absurd h HJJ.out, fun _ => rfl⟩, hbw2⟩

end Go.Proofs.YtnjaofkieajnlaaGreat

/- The document's own inbox: Whole. -/
namespace Go.Proofs.YtnjaofkieajnlaaGreat
open Go.RowKit

theorem objE_cases (c : CS) : (objE c).2 = 0 ∨ (objE c).2 = 5 ∨ (objE c).2 = 8 := by
  unfold objE
  split
  · split
    · exact Or.inl rfl
    · exact Or.inr (Or.inr rfl)
  · exact Or.inr (Or.inl rfl)

theorem objE_size {c : CS} (h : CSok c) : (objE c).1.size ≤ 320 := by
  unfold objE
  split
  · rename_i hk
    split
    · show (objText (joinTo (csG c) c.K)).size ≤ 320
      have hs := joinTo_size (csG c) c.z (csG_size h hk.1) c.K
      have sp := h.spec hk.1
      have hb : c.K * c.z ≤ 320 := Nat.le_trans (Nat.mul_le_mul sp.hK.2 sp.hz.2) (by decide)
      unfold objText
      split
      · rw [ByteArray.size_extract]; omega
      · show 0 ≤ 320; omega
    · show 0 ≤ 320; omega
  · show 0 ≤ 320; omega

theorem wholeTo_size {s : IS} (h : ISok s) (i : Nat) (hi : i ≤ s.parts.length) : (wholeTo s i).size ≤ i * 320 := by
  induction i with
  | zero => exact Nat.zero_le _
  | succ i ih =>
    show (wholeTo s i ++ (objE (s.parts.getD i CS.zero)).1).size ≤ _
    have h1 := ih (by omega)
    have h2 := objE_size (h.part (i := i) (by omega)).1
    rw [ByteArray.size_append]
    omega

/-- The objects of the first parts. -/
def objsTo (s : IS) : Nat → List ByteArray
  | 0 => []
  | i + 1 => objsTo s i ++ [(objE (s.parts.getD i CS.zero)).1]

theorem objsTo_length (s : IS) (i : Nat) : (objsTo s i).length = i := by
  induction i with
  | zero => rfl
  | succ i ih => show (objsTo s i ++ [_]).length = _; rw [List.length_append, ih]; rfl

theorem objsTo_getD (s : IS) (n i : Nat) (h : i < n) : (objsTo s n).getD i ByteArray.empty = (objE (s.parts.getD i CS.zero)).1 := by
  induction n with
  | zero => omega
  | succ n ih =>
    show (objsTo s n ++ [(objE (s.parts.getD n CS.zero)).1]).getD i ByteArray.empty = _
    rw [List.getD_eq_getElem?_getD]
    by_cases e : i < n
    · rw [List.getElem?_append_left (by rw [objsTo_length]; exact e), ← List.getD_eq_getElem?_getD]; exact ih e
    · have : i = n := by omega
      subst this
      rw [List.getElem?_append_right (by rw [objsTo_length]; exact Nat.le_refl _), objsTo_length, Nat.sub_self]; rfl

theorem any_iff (s : IS) : isOpen s = true ↔ ∃ i, i < s.parts.length ∧ (objE (s.parts.getD i CS.zero)).2 = 5 := by
  unfold isOpen
  rw [List.any_eq_true]
  constructor
  · rintro ⟨c, hc, h⟩
    obtain ⟨i, hi, rfl⟩ := List.mem_iff_getElem.1 hc
    exact ⟨i, hi, by rw [List.getD_eq_getElem?_getD, List.getElem?_eq_getElem hi]; exact decide_eq_true_iff.1 h⟩
  · rintro ⟨i, hi, h⟩
    exact ⟨_, getD_mem hi CS.zero, decide_eq_true_iff.2 h⟩

theorem all_iff (s : IS) : isForm s = true ↔ ∀ i, i < s.parts.length → (objE (s.parts.getD i CS.zero)).2 = 0 := by
  unfold isForm
  rw [List.all_eq_true]
  constructor
  · intro h i hi
    exact decide_eq_true_iff.1 (h _ (getD_mem hi CS.zero))
  · intro h c hc
    obtain ⟨i, hi, rfl⟩ := List.mem_iff_getElem.1 hc
    have := h i hi
    rw [List.getD_eq_getElem?_getD, List.getElem?_eq_getElem hi] at this
    exact decide_eq_true_iff.2 this

theorem cut_iff (s : IS) (T : ByteArray) : isCut s T = true ↔ ∀ p, p < s.parts.length → (objE (s.parts.getD p CS.zero)).1 = partT T (s.K * s.z - 2) p := by
  unfold isCut
  rw [List.all_eq_true]
  exact ⟨fun h p hp => decide_eq_true_iff.1 (h p (List.mem_range.2 hp)), fun h p hp => decide_eq_true_iff.2 (h p (List.mem_range.1 hp))⟩

theorem whole_open {s : IS} (h : s.parts = [] ∨ ∃ i, i < s.parts.length ∧ (objE (s.parts.getD i CS.zero)).2 = 5) : wholeE s = (⟨#[]⟩, 5) := by
  unfold wholeE
  rw [if_pos (h.imp id (any_iff s).2)]

theorem whole_no {s : IS} (h0 : s.parts ≠ []) (h1 : ∀ i, i < s.parts.length → (objE (s.parts.getD i CS.zero)).2 ≠ 5) (h2 : ¬ ((∀ i, i < s.parts.length → (objE (s.parts.getD i CS.zero)).2 = 0) ∧ 3 ≤ s.K * s.z ∧ partsN (wholeTo s s.parts.length) (s.K * s.z - 2) = s.parts.length ∧ (∀ p, p < s.parts.length → (objE (s.parts.getD p CS.zero)).1 = partT (wholeTo s s.parts.length) (s.K * s.z - 2) p))) : wholeE s = (⟨#[]⟩, 8) := by
  unfold wholeE
  rw [if_neg (fun h => by
    rcases h with h | h
    · exact h0 h
    · obtain ⟨i, hi, h⟩ := (any_iff s).1 h
      exact h1 i hi h), if_neg (fun ⟨a, b, c, d⟩ => h2 ⟨(all_iff s).1 a, b, c, (cut_iff s _).1 d⟩)]

theorem whole_yes {s : IS} (h0 : s.parts ≠ []) (h1 : ∀ i, i < s.parts.length → (objE (s.parts.getD i CS.zero)).2 = 0) (h2 : 3 ≤ s.K * s.z) (h3 : partsN (wholeTo s s.parts.length) (s.K * s.z - 2) = s.parts.length) (h4 : ∀ p, p < s.parts.length → (objE (s.parts.getD p CS.zero)).1 = partT (wholeTo s s.parts.length) (s.K * s.z - 2) p) : wholeE s = (wholeTo s s.parts.length, 0) := by
  unfold wholeE
  rw [if_neg (fun h => by
    rcases h with h | h
    · exact h0 h
    · obtain ⟨i, hi, h⟩ := (any_iff s).1 h
      rw [h1 i hi] at h
      cases h), if_pos ⟨(all_iff s).2 h1, h2, h3, (cut_iff s _).2 h4⟩]

set_option maxRecDepth 100000 in
set_option maxHeartbeats 8000000 in
theorem rwhole_any (x : Nat) (hv : Value) (l : List PD) (s : IS) (w : World) (hd : DocInbox w x hv l s) (hs : ISok s) :
    Calls Tryz.prog 43 #[.pointer (some ⟨x, 0, none⟩)] w fun e w' => e = .returned (.tuple #[.string (wholeE s).1, .int .i64 (wholeE s).2]) ∧ Below w.heap.size w w' := by
  obtain ⟨ao, cap, hvs⟩ := hd.shape
  have hlen := hd.parts.len
  have hl20 := hs.len
  rw [← hlen] at hl20
  obtain ⟨c0, _, _, _, c4, c5⟩ := inb_cells hd.box
  have hxl := hd.xlt
  obtain ⟨j0, gi, gz0, gz1, gz2⟩ := info_parts Tryz.infoText
  subst hvs
  have hwo := fun h => whole_open (s := s) h
  have hwn := fun h0 h1 h2 => whole_no (s := s) h0 h1 h2
  have hwy := fun h0 h1 h2 h3 h4 => whole_yes (s := s) h0 h1 h2 h3 h4
  have hws := fun i hi => wholeTo_size hs i hi
  have hne0 : l.length ≠ 0 → s.parts ≠ [] := fun h e => h (by rw [hlen, e]; rfl)
  have he0 : l.length = 0 → s.parts = [] := fun h => List.eq_nil_of_length_eq_zero (by omega)
  rw [← hlen] at hwo hwn hwy hws
  have Hwo := hide hwo
  have Hwn := hide hwn
  have Hwy := hide hwy
  have Hws := hide hws
  have Hne0 := hide hne0
  have He0 := hide he0
  have HD := hide hd
  have HS := hide hs
  have Hlen := hide hlen
  clear hwo hwn hwy hws hd hs hne0 he0 hlen
  go_enter Tryz.func43, Tryz.ntmps43
  go_wp2_with fail
  go_loopw [4, 5, 6, 18] (fun tv fv lv iv wr => ∃ (i : Nat) (fb : Bool), i ≤ l.length ∧ iv = .int .i64 (i : Int) ∧ tv = .string (wholeTo s i) ∧ fv = .bool fb ∧ (fb = true ↔ ∀ j, j < i → (objE (s.parts.getD j CS.zero)).2 = 0) ∧ (∀ j, j < i → (objE (s.parts.getD j CS.zero)).2 ≠ 5) ∧ wr.ownsRow w.heap.size 9 1 lv i (textV (objsTo s i)) ∧ Below w.heap.size w wr) (fun _ _ _ iv _ => l.length - (intOf iv).toNat)
  case atStart => exact ⟨0, true, Nat.zero_le _, rfl, rfl, rfl, ⟨fun _ j hj => absurd hj (Nat.not_lt_zero _), fun _ => rfl⟩, fun j hj => absurd hj (Nat.not_lt_zero _), World.ownsRow_nil _ _ _ _, Below.refl _ _⟩
  case round =>
    clear c0 c4 c5
    obtain ⟨i, fb, hi, rfl, rfl, rfl, hfb, hno, hown, hbr⟩ := hrel
    have hdr := HD.out.on hbr
    obtain ⟨c0, _, _, _, c4, c5⟩ := inb_cells hdr.box
    have hsz := Hws.out i hi
    have Hfb := hide hfb
    have Hno := hide hno
    clear hfb hno
    by_cases hlt : i < l.length
    · obtain ⟨g, cap', hve, hg, cp⟩ := hdr.parts.cell hlt
      have hdc := hdr.parts.each i hlt
      obtain ⟨hok, hpo⟩ := HS.out.part (i := i) (by have := Hlen.out; omega)
      have hnx : wholeTo s (i + 1) = wholeTo s i ++ (objE (s.parts.getD i CS.zero)).1 := rfl
      have hnl : objsTo s (i + 1) = objsTo s i ++ [(objE (s.parts.getD i CS.zero)).1] := rfl
      have hob := robj_any _ _ _ _ _ wr hdc hok
      have hos := objE_size hok
      have hcs := objE_cases (s.parts.getD i CS.zero)
      simp only [Value.slice.injEq] at hve
      obtain ⟨rfl, _, rfl⟩ := hve
      generalize hoe : objE (s.parts.getD i CS.zero) = oe at *
      generalize (l.getD i PD.no).r = r at *
      obtain ⟨ot, oc⟩ := oe
      dsimp only at hnx hnl hob hos hcs
      have Hnx := hide hnx
      have Hnl := hide hnl
      have Hoe := hide hoe
      clear hnx hnl hdc hok hpo hoe hdr
      have i1 : (0 : Int) ≤ (i : Int) := by omega
      have i2 : (i : Int) < (l.length : Int) := by omega
      generalize wholeTo s i = T at *
      have hjs : T.size + ot.size ≤ 10000 := by
        have : i * 320 ≤ 20 * 320 := Nat.mul_le_mul_right _ (by omega)
        omega
      go_wp2_with fail
      refine hob.mono ?_
      rintro e w2 ⟨rfl, hb2⟩
      have hown2 := owns_below hown hb2
      have hbr2 := hbr.trans (hb2.mono hbr.size)
      have hbs := hbr2.size
      clear hob hb2 hown hbr c0 c4 c5 cp
      rcases hcs with rfl | rfl | rfl
      · have hiff : (∀ j, j < i → (objE (s.parts.getD j CS.zero)).2 = 0) ↔ (∀ j, j < i + 1 → (objE (s.parts.getD j CS.zero)).2 = 0) := ⟨fun h j hj => by
            by_cases e : j = i
            · subst e; rw [Hoe.out]
            · exact h j (by omega), fun h j hj => h j (by omega)⟩
        have Hiff := hide hiff
        clear hiff
        cases fb
        all_goals
          go_wp2_with (at_builtin; refine wpList_append_lies _ rfl (.tmp 35) (.tmp 37) 27 rfl w.heap.size 9 j0 (.string ByteArray.empty) 1 16 Tryz.underlying27 gi gz0 gz1 gz2 rfl (by decide) _ _ _ rfl (hown2.alloc _) ⟨w2.heap.size, 0, none⟩ 1 1 [.string ot] rfl rfl (one_news _ _ _) (one_oneCell rfl) (by decide) (by unfold maxLen; omega) (by omega) (by simp; omega) (w2.heap.size + 1) (by simp) ?_)
          intro g5 cap5 w5 hown5 hgr5 hat5 hlt5
          have hb5 : Below w.heap.size w w5 := hbr2.grown (grownBy_of_alloc hgr5) hbr2.size (fun k e => (hown2.lt k e).1)
          clear hown2 hbr2 hgr5 hat5
          go_wp2_with fail
          go_roundw
          case rel =>
            refine ⟨i + 1, _, by omega, by go_num, by rw [Hnx.out], rfl, ?_, fun j hj => ?_, by rw [Hnl.out, textV_append]; exact hown5, hb5⟩
            · first | exact Hfb.out.trans Hiff.out | exact ⟨fun _ => (Hfb.out.trans Hiff.out).1 trivial, fun _ => rfl⟩ | simpa using Hfb.out.trans Hiff.out
            · by_cases e : j = i
              · subst e; rw [Hoe.out]; simp
              · exact Hno.out j (by omega)
          case measure => simp [intOf]; omega
      · have hwe := Hwo.out (Or.inr ⟨i, hlt, by rw [Hoe.out]⟩)
        have Hwe := hide hwe
        clear hwe
        go_wp2_with fail
        go_ret2
        exact ⟨by rw [Hwe.out]; rfl, hbr2⟩
      · cases fb
        all_goals
          go_wp2_with (at_builtin; refine wpList_append_lies _ rfl (.tmp 35) (.tmp 37) 27 rfl w.heap.size 9 j0 (.string ByteArray.empty) 1 16 Tryz.underlying27 gi gz0 gz1 gz2 rfl (by decide) _ _ _ rfl (hown2.alloc _) ⟨w2.heap.size, 0, none⟩ 1 1 [.string ot] rfl rfl (one_news _ _ _) (one_oneCell rfl) (by decide) (by unfold maxLen; omega) (by omega) (by simp; omega) (w2.heap.size + 1) (by simp) ?_)
          intro g5 cap5 w5 hown5 hgr5 hat5 hlt5
          have hb5 : Below w.heap.size w w5 := hbr2.grown (grownBy_of_alloc hgr5) hbr2.size (fun k e => (hown2.lt k e).1)
          clear hown2 hbr2 hgr5 hat5
          go_wp2_with fail
          go_roundw
          case rel =>
            refine ⟨i + 1, false, by omega, by go_num, by rw [Hnx.out], rfl, ⟨fun h => (by cases h), fun h => ?_⟩, fun j hj => ?_, by rw [Hnl.out, textV_append]; exact hown5, hb5⟩
            · have := h i (by omega)
              rw [Hoe.out] at this
              cases this
            · by_cases e : j = i
              · subst e; rw [Hoe.out]; simp
              · exact Hno.out j (by omega)
          case measure => simp [intOf]; omega
    · have hii : i = l.length := by omega
      have i5 : ¬ (i : Int) < (l.length : Int) := by omega
      by_cases hl0 : l.length = 0
      · have hwe := Hwo.out (Or.inl (He0.out hl0))
        have Hwe := hide hwe
        have i6 : ((i : Int) == 0) = true := by simp; omega
        obtain ⟨bo, bcap, hlv⟩ : ∃ bo bcap, u6 = .slice bo i bcap := by
          rcases hown.2 with ⟨h1, h2⟩ | ⟨g, cap, cur, h1, _⟩
          · exact ⟨none, 0, by rw [h1, h2]⟩
          · exact ⟨_, cap, h1⟩
        subst hlv
        clear hwe hl0 hii hown
        go_wp2_with fail
        go_ret2
        exact ⟨by rw [Hwe.out]; rfl, hbr⟩
      · have hpn := Hne0.out hl0
        have hsp := HS.out.spec hpn
        have hK := hsp.hK
        have hz := hsp.hz
        have hN2 : s.K * s.z ≤ 320 := Nat.le_trans (Nat.mul_le_mul hK.2 hz.2) (by decide)
        have hN1 : 1 ≤ s.K * s.z := Nat.mul_pos (by omega) (by omega)
        have hmul : (s.K : Int) * (s.z : Int) = ((s.K * s.z : Nat) : Int) := by simp
        have hm1 : 1 ≤ (s.K : Int) * (s.z : Int) := by rw [hmul]; omega
        have hm2 : (s.K : Int) * (s.z : Int) ≤ 320 := by rw [hmul]; omega
        have i6 : ((i : Int) == 0) = false := beq_eq_false_iff_ne.2 (by omega)
        have hsz2 : (wholeTo s i).size ≤ 10000 := by
          have : i * 320 ≤ 20 * 320 := Nat.mul_le_mul_right _ (by omega)
          omega
        have htx := owns_texts hown (objsTo_length s i).symm
        have hgd := fun p (hp : p < i) => objsTo_getD s i p hp
        obtain ⟨bo, bcap, hlv, hbc, hbt⟩ := htx
        rw [objsTo_length] at hlv hbc hbt
        subst hlv
        have HBT := hide hbt
        have HGD := hide hgd
        have Hmul := hide hmul
        have hbd : ∀ n, Below w.heap.size w (wr.drewN n) := fun n => hbr.trans ⟨rfl, rfl, rfl, Nat.le_refl _, fun _ _ => rfl⟩
        clear hbt hgd hmul hl0 hown hsz hdr
        have HT2 := hide hii
        clear hii
        go_upto_region 16 with fail
        go_cut [11] (fun s11 wc => s11 = .int .i64 ((s.K : Int) * (s.z : Int) - 2) ∧ ∃ n, wc = wr.drewN n)
        case first =>
          go_quiet (fail)
          go_wp2_with fail
          go_meet
          case rel => exact ⟨rfl, _, rfl⟩
        case rest =>
        obtain ⟨rfl, nq, rfl⟩ := hcut
        have hbq := hbd nq
        have hcq : ∀ k, k < i → ∃ q o, bo = some ⟨q, o, none⟩ ∧ q < (wr.drewN nq).heap.size ∧ (wr.drewN nq).cell? ⟨q, o + k, none⟩ = some (.string ((objsTo s i).getD k ByteArray.empty)) := fun k hk => HBT.out k hk
        generalize wr.drewN nq = V at *
        have HCQ := hide hcq
        clear hbd hcq c0 c4 c5 HBT
        cases fb with
        | false =>
          have hwe := Hwn.out hpn (fun j hj => Hno.out j (by have := HT2.out; omega)) (fun h => by
            have := Hfb.out.2 (fun j hj => h.1 j (by have := HT2.out; omega))
            cases this)
          have Hwe := hide hwe
          clear hwe
          go_wp2_with fail
          go_ret2
          exact ⟨by rw [Hwe.out]; rfl, hbq⟩
        | true =>
          have hall := Hfb.out.1 rfl
          by_cases h3 : s.K * s.z < 3
          · have hwe := Hwn.out hpn (fun j hj => Hno.out j (by have := HT2.out; omega)) (fun h => by have := h.2.1; omega)
            have Hwe := hide hwe
            have n1 : (s.K : Int) * (s.z : Int) - 2 < 1 := by rw [Hmul.out]; omega
            clear hwe hall
            go_wp2_with fail
            go_ret2
            exact ⟨by rw [Hwe.out]; rfl, hbq⟩
          · obtain ⟨n, hn⟩ : ∃ n, n = s.K * s.z - 2 := ⟨_, rfl⟩
            have hmul2 : (s.K : Int) * (s.z : Int) - 2 = (n : Int) := by rw [Hmul.out]; omega
            have n1 : ¬ (n : Int) < 1 := by omega
            have hnb : 1 ≤ n ∧ n ≤ 318 := by omega
            have hpa := fun W => rparts_any (wholeTo s i) n W (by omega) (by omega)
            have Hn := hide hn
            rw [hmul2]
            clear hmul2 hn h3 hm1 hm2 hN1 hN2
            by_cases hpe : partsN (wholeTo s i) n = i
            · have hpt := fun p (hp : p < i) W => rpart_any (wholeTo s i) n p W (by omega) (by omega) (partT_in (wholeTo s i) n p hnb.1 (by rw [hpe]; exact hp)).1 (by omega)
              rw [hpe] at hpa
              have Hpe := hide hpe
              have Hall := hide hall
              clear hpe hall
              go_wp2_with fail
              refine (hpa _).mono ?_
              rintro e W1 ⟨rfl, e1⟩
              obtain rfl := e1.symm
              clear hpa
              go_wp2_with fail
              go_loopw [73] (fun pv wr => ∃ p : Nat, p ≤ i ∧ pv = .int .i64 (p : Int) ∧ (∀ j, j < p → (objE (s.parts.getD j CS.zero)).1 = partT (wholeTo s i) n j) ∧ Below V.heap.size V wr) (fun pv _ => i - (intOf pv).toNat)
              case atStart => exact ⟨0, Nat.zero_le _, rfl, fun j hj => absurd hj (Nat.not_lt_zero _), Below.refl _ _⟩
              case round =>
                obtain ⟨p, hp, rfl, hcut, hbp⟩ := hrel
                have Hcut := hide hcut
                clear hcut
                have hbe := hbq.trans (hbp.mono hbq.size)
                by_cases hpl : p < i
                · obtain ⟨q, o, rfl, hq, hcc⟩ := HCQ.out p hpl
                  rw [HGD.out p hpl] at hcc
                  have hc2 := (hbp.cell (p := ⟨q, o + p, none⟩) hq).trans hcc
                  have hptp := hpt p hpl
                  have i1 : (0 : Int) ≤ (p : Int) := by omega
                  have i2 : (p : Int) < (i : Int) := by omega
                  clear hcc
                  generalize hoe : (objE (s.parts.getD p CS.zero)).1 = ot at *
                  generalize hpp : partT (wholeTo s i) n p = pp at *
                  by_cases heq : ot = pp
                  · have hbb : (ot.toList == pp.toList) = true := by rw [heq]; simp
                    have Heq := hide heq
                    have Hoe := hide hoe
                    have Hpp := hide hpp
                    clear heq hoe hpp
                    go_wp2_with fail
                    go_quiet (first | (go_at_call 67; refine Calls.quiet_of_same (hptp _)))
                    have hbz : Below V.heap.size V (wr.drewN nq) := hbp.trans ⟨rfl, rfl, rfl, Nat.le_refl _, fun _ _ => rfl⟩
                    go_wp2_with fail
                    go_roundw
                    case rel =>
                      refine ⟨p + 1, by omega, by go_num, fun j hj => ?_, hbz⟩
                      by_cases e : j = p
                      · subst e; rw [Hoe.out, Hpp.out]; exact Heq.out
                      · exact Hcut.out j (by omega)
                    case measure => simp [intOf]; omega
                  · have hbb := beq_bytes heq
                    have hwe := Hwn.out hpn (fun j hj => Hno.out j (by have := HT2.out; omega)) (fun h => heq (by
                      have := h.2.2.2 p (by have := HT2.out; omega)
                      rw [← HT2.out, ← Hn.out] at this
                      rw [← hoe, ← hpp]; exact this))
                    have Hwe := hide hwe
                    clear heq hoe hpp hwe
                    go_wp2_with fail
                    go_quiet (first | (go_at_call 67; refine Calls.quiet_of_same (hptp _)))
                    have hbz : Below w.heap.size w (wr.drewN nq) := hbe.trans ⟨rfl, rfl, rfl, Nat.le_refl _, fun _ _ => rfl⟩
                    go_wp2_with fail
                    go_ret2
                    exact ⟨by rw [Hwe.out]; rfl, hbz⟩
                · have hwe := Hwy.out hpn (fun j hj => Hall.out j (by have := HT2.out; omega)) (by have := Hn.out; omega) (by rw [← HT2.out, ← Hn.out]; exact Hpe.out) (fun j hj => by rw [← HT2.out, ← Hn.out]; exact Hcut.out j (by have := HT2.out; omega))
                  rw [← HT2.out] at hwe
                  have Hwe := hide hwe
                  have i7 : ¬ (p : Int) < (i : Int) := by omega
                  clear hwe
                  generalize wholeTo s i = T at *
                  go_wp2_with fail
                  go_ret2
                  exact ⟨by rw [Hwe.out]; rfl, hbe⟩
            · have hwe := Hwn.out hpn (fun j hj => Hno.out j (by have := HT2.out; omega)) (fun h => hpe (by have := h.2.2.1; rw [← HT2.out, ← Hn.out] at this; exact this))
              have Hwe := hide hwe
              have hb1 : ((partsN (wholeTo s i) n : Int) != (i : Int)) = true := by simp; omega
              clear hwe hall hpe
              generalize partsN (wholeTo s i) n = c at *
              go_wp2_with fail
              refine (hpa _).mono ?_
              rintro e W1 ⟨rfl, e1⟩
              obtain rfl := e1.symm
              clear hpa
              go_wp2_with fail
              go_ret2
              exact ⟨by rw [Hwe.out]; rfl, hbq⟩

end Go.Proofs.YtnjaofkieajnlaaGreat
