/- Texts of the proof, part 19. -/
import Derived.Test.YtnjaofkieajnlabPostedG16
import Derived.Test.YtnjaofkieajnlabPostedG17

/- The program's inbox: the parts joined; Whole. -/
namespace Go.Proofs.Ytnjaofkieajnlab
open Go.RowKit

/-- Bytes that the call owns, also none, as a text. -/
theorem conv_owned (B : ByteArray) (v : Value) (n base : Nat) (w : World) (h : w.ownsRow base 5 1 v n (bytesV B)) (hn : n = B.size) : (convert 55 9 v).run Try.prog w = .ok (.string B) w := by
  subst hn
  rcases h.2 with ⟨rfl, h1⟩ | ⟨g, cap, cur, rfl, _⟩
  · have hB : B = ByteArray.empty := ByteArray.size_eq_zero_iff.1 h1
    rw [hB]
    exact run_convert_bytes_nil (P := Try.prog) w 55 5 Try.underlying55 Try.underlying5 0 0 9 Try.underlying9
  · have hcell := h.cells (g := g) rfl
    have hcells : ∀ j, j < B.size → w.cell? ⟨g, 0 + j, none⟩ = some (.int .u8 ((numsB B).getD j 0)) := fun j hj => by
      rw [numsB_getD, ← Addr.add_mid]
      exact hcell j _ (bytesV_getElem B j hj)
    have hcv := run_convert_bytes_arg (P := Try.prog) w 55 5 Try.underlying55 Try.underlying5 g 0 B.size cap (numsB B) (numsB_length B) hcells 9 Try.underlying9
    rw [strOfNums_numsB] at hcv
    exact hcv

theorem objText_size (t : ByteArray) : (objText t).size ≤ t.size := by
  unfold objText
  split
  · rw [ByteArray.size_extract]; omega
  · exact Nat.zero_le _

/-- The objects of the first data, and these joined. -/
def objL (D : List ByteArray) (n : Nat) : List ByteArray := (List.range n).map (fun i => objText (D.getD i ByteArray.empty))

def objW (D : List ByteArray) : Nat → ByteArray
  | 0 => ByteArray.empty
  | i + 1 => objW D i ++ objText (D.getD i ByteArray.empty)

theorem objL_length (D : List ByteArray) (n : Nat) : (objL D n).length = n := by simp [objL]

theorem objL_succ (D : List ByteArray) (n : Nat) : objL D (n + 1) = objL D n ++ [objText (D.getD n ByteArray.empty)] := by
  unfold objL
  rw [List.range_succ, List.map_append]; rfl

theorem objW_size (D : List ByteArray) (hD : ∀ i, (D.getD i ByteArray.empty).size ≤ 320) (n : Nat) : (objW D n).size ≤ n * 320 := by
  induction n with
  | zero => exact Nat.le_refl _
  | succ n ih =>
    show (objW D n ++ _).size ≤ _
    rw [ByteArray.size_append, Nat.succ_mul]
    have := objText_size (D.getD n ByteArray.empty)
    have := hD n
    omega

/-- Whether the data are those of a large object's parts. -/
def joinOk (D : List ByteArray) (n c : Nat) : Prop := (∀ i, i < c → objOk (D.getD i ByteArray.empty) = true) ∧ cutL (objW D c) n (partsN (objW D c) n) = objL D c

set_option maxRecDepth 100000 in
set_option maxHeartbeats 4000000 in
theorem ljoined_small (v : Value) (r : Int) (w : World) (hr : r < 1) :
    Calls Try.prog 62 #[v, .int .i64 r] w fun e w' => e = .returned (.tuple #[.string ⟨#[]⟩, .int .i64 8]) ∧ Below w.heap.size w w' := by
  go_enter Try.func62, Try.ntmps62
  go_wp2_with fail
  go_ret2
  exact ⟨rfl, Below.refl _ _⟩

theorem run_make_bytemul (a b : Nat) (hn : a * b ≤ 1000000) (w : World) : (Instr.makeSlice 55 (.int .i64 0) (.int .i64 ((a : Int) * (b : Int)))).run Try.prog w = .ok (.slice (some ⟨w.heap.size, 0, none⟩) 0 (a * b)) (w.alloc (.cells (madeCells #[.int .u8 0] (a * b)) 5)) := by
  have h := run_make_byteRow (a * b) hn w
  rw [show ((a * b : Nat) : Int) = (a : Int) * (b : Int) by simp] at h
  exact h

set_option maxRecDepth 100000 in
set_option maxHeartbeats 8000000 in
theorem ljoined_any (v : Value) (D : List ByteArray) (n c : Nat) (w : World) (hn : 1 ≤ n ∧ n ≤ 1000) (hDl : D.length = c) (hc : c ≤ 20) (hD : ∀ i, (D.getD i ByteArray.empty).size ≤ 320) (hT : TextsAt w v D) :
    Calls Try.prog 62 #[v, .int .i64 (n : Int)] w fun e w' => ((joinOk D n c → e = .returned (.tuple #[.string (objW D c), .int .i64 0])) ∧ (¬ joinOk D n c → e = .returned (.tuple #[.string ⟨#[]⟩, .int .i64 8]))) ∧ Below w.heap.size w w' := by
  obtain ⟨i0, hi0, hz0, hz1, hz2⟩ := info_parts Try.infoByte
  obtain ⟨j0, gi, gz0, gz1, gz2⟩ := info_parts Try.infoText
  obtain ⟨ao, cap, rfl, hcap, hT⟩ := hT
  rw [hDl] at hcap hT ⊢
  have hcn : c * n ≤ 20000 := Nat.le_trans (Nat.mul_le_mul hc hn.2) (by decide)
  have hmk2 := run_make_bytemul c n (by omega)
  have m1 : 0 ≤ (c : Int) * (n : Int) := Int.mul_nonneg (by omega) (by omega)
  have m2 : (c : Int) * (n : Int) ≤ 20000 := by
    have : (c : Int) * (n : Int) = ((c * n : Nat) : Int) := by simp
    omega
  have hmk := run_make_texts c (by omega)
  have hws := objW_size D hD
  have hrd := fun i W => oread_any (D.getD i ByteArray.empty) W (by have := hD i; omega)
  have hos : ∀ i, (objText (D.getD i ByteArray.empty)).size ≤ 320 := fun i => Nat.le_trans (objText_size _) (hD i)
  have HT := hide hT
  have HWS := hide hws
  have HRD := hide hrd
  have HOS := hide hos
  clear hT hws hrd hDl hos
  go_enter Try.func62, Try.ntmps62
  have n1 : ¬ (n : Int) < 1 := by omega
  go_upto_region 4 with fail
  have hst : (w.alloc (.cells (madeCells #[.string ByteArray.empty] c) 9)).ownsRow w.heap.size 9 1 (.slice (some ⟨w.heap.size, 0, none⟩) 0 c) 0 (textV (objL D 0)) := World.ownsRow_made (base := w.heap.size) (e := 9) (size := 1) w (madeCells #[.string ByteArray.empty] c) c (Nat.le_refl _) (by unfold maxLen; omega) (by simp [size_madeCells])
  have hbS : Below w.heap.size w (w.alloc (.cells (madeCells #[.string ByteArray.empty] c) 9)) := (Below.refl _ _).alloc (Nat.le_refl _) _
  generalize w.alloc (.cells (madeCells #[.string ByteArray.empty] c) 9) = W at *
  clear hmk
  go_upto_region 5 with fail
  have hst2 : (W.alloc (.cells (madeCells #[.int .u8 0] (c * n)) 5)).ownsRow w.heap.size 5 1 (.slice (some ⟨W.heap.size, 0, none⟩) 0 (c * n)) (objW D 0).size (bytesV (objW D 0)) := World.ownsRow_made (base := w.heap.size) (e := 5) (size := 1) W (madeCells #[.int .u8 0] (c * n)) (c * n) hbS.size (by unfold maxLen; omega) (by simp [size_madeCells])
  have hst3 := hst.alloc (.cells (madeCells #[.int .u8 0] (c * n)) 5)
  have hbS2 := hbS.alloc hbS.size (.cells (madeCells #[.int .u8 0] (c * n)) 5)
  generalize W.alloc (.cells (madeCells #[.int .u8 0] (c * n)) 5) = W2 at *
  clear hmk2 m1 m2 hst hbS
  generalize c * n = cn at *
  go_wp2_with fail
  go_loopw [6, 7, 26] (fun pv bv iv wr => ∃ i : Nat, i ≤ c ∧ iv = .int .i64 (i : Int) ∧ (∀ j, j < i → objOk (D.getD j ByteArray.empty) = true) ∧ wr.ownsRow w.heap.size 9 1 pv i (textV (objL D i)) ∧ wr.ownsRow w.heap.size 5 1 bv (objW D i).size (bytesV (objW D i)) ∧ Below w.heap.size w wr) (fun _ _ iv _ => c - (intOf iv).toNat)
  case atStart => exact ⟨0, Nat.zero_le _, rfl, fun j h => absurd h (Nat.not_lt_zero _), hst3, hst2, hbS2⟩
  case round =>
    clear hst3 hst2 hbS2
    obtain ⟨i, hi, rfl, hall, hop, hob, hbr⟩ := hrel
    have HA := hide hall
    clear hall
    have hsw := hbr.size
    have hwz : (objW D i).size ≤ 6400 := Nat.le_trans (HWS.out i) (Nat.le_trans (Nat.mul_le_mul_right 320 (show i ≤ 20 by omega)) (by decide))
    by_cases hlt : i < c
    · obtain ⟨q, o, rfl, hq, t1⟩ := HT.out i hlt
      have r1 := (hbr.cell (p := ⟨q, o + i, none⟩) hq).trans t1
      have hr := HRD.out i
      have ho := HOS.out i
      have hsu : objL D (i + 1) = objL D i ++ [objText (D.getD i ByteArray.empty)] := objL_succ D i
      have hsw2 : objW D (i + 1) = objW D i ++ objText (D.getD i ByteArray.empty) := rfl
      have HS1 := hide hsu
      have HS2 := hide hsw2
      have i1 : (0 : Int) ≤ (i : Int) := by omega
      have i2 : (i : Int) < (c : Int) := by omega
      clear t1 hsu hsw2
      cases hk : objOk (D.getD i ByteArray.empty) with
      | true =>
        have HK := hide hk
        clear hk
        obtain ⟨d, hd⟩ : ∃ d, d = D.getD i ByteArray.empty := ⟨_, rfl⟩
        obtain ⟨x, hx⟩ : ∃ x, x = objText (D.getD i ByteArray.empty) := ⟨_, rfl⟩
        rw [← hx] at hr ho HS1 HS2
        rw [← hd] at r1 hr
        have hK2 : objOk d = true := by rw [hd]; exact HK.out
        have HK2 := hide hK2
        clear hK2 hx hd
        go_wp2_with fail
        refine (hr _).mono ?_
        rintro e w1 ⟨⟨h1, h2⟩, hb1⟩
        rw [h1 HK2.out]
        have hbw1 := hbr.trans (hb1.mono hbr.size)
        have hop1 := owns_below hop hb1
        have hob1 := owns_below hob hb1
        have hsw1 := hbw1.size
        clear h1 h2 hr r1 hop hob hbr hb1
        go_wp2_with (at_builtin; refine wpList_append_lies _ rfl (.tmp 38) (.tmp 40) 27 rfl w.heap.size 9 j0 (.string ByteArray.empty) 1 16 Try.underlying27 gi gz0 gz1 gz2 rfl (by decide) _ _ _ rfl (hop1.alloc _) ⟨w1.heap.size, 0, none⟩ 1 1 [.string x] rfl rfl (one_news _ _ _) (one_oneCell rfl) (by decide) (by unfold maxLen; omega) (by omega) (by simp; omega) (w1.heap.size + 1) (by simp) ?_)
        intro g6 k6 W6 hown6 hgr6 hat6 hlt6
        have hgr := grownBy_of_alloc hgr6
        have hb6 := below_own hop1 hgr6 hsw1
        have hbi6 := hbw1.trans hb6
        have hob6 : W6.ownsRow w.heap.size 5 1 u7 (objW D i).size (bytesV (objW D i)) := hob1.kept hgr (by
          cases hx : u7.ownBlock with
          | none => exact Or.inl rfl
          | some k =>
            right
            intro e
            obtain ⟨cu, hcu⟩ := owns_block hob1 hx
            exact owns_other hop1 hcu (by decide) e.symm)
        have hsw6 := hbi6.size
        clear hgr6 hat6 hb6 hbw1 hop1 hob1 hgr
        go_wp2_with (at_builtin; refine Go.Lib.wpList_append_own_string _ rfl (.tmp 42) (.tmp 43) 55 9 rfl w.heap.size 5 i0 Try.underlying55 Try.underlying9 hi0 hz0 hz1 hz2 _ _ _ rfl hob6 x rfl (by unfold maxLen; omega) (by omega) (by omega) ?_)
        intro v5 w5 hown5 hgr5 _
        have hb5 : Below w.heap.size w w5 := hbi6.grown hgr5 hbi6.size (fun k e => (hob6.lt k e).1)
        rw [bytesV_str, ← bytesV_app] at hown5
        have hop5 := hown6.kept hgr5 (by
          right
          intro e
          obtain ⟨cu, hcu⟩ := owns_block hown6 (k := g6) rfl
          exact owns_other hob6 hcu (by decide) (by rw [← e]; rfl))
        clear hgr5 hob6 hown6 hbi6
        go_wp2_with fail
        go_roundw
        case rel => exact ⟨i + 1, by omega, by go_num, fun j hj => by
            by_cases e : j < i
            · exact HA.out j e
            · have : j = i := by omega
              rw [this]; exact HK.out, by rw [HS1.out, textV_append]; exact hop5, by rw [HS2.out, ByteArray.size_append]; exact hown5, hb5⟩
        case measure => simp [intOf]; omega
      | false =>
        have HN := hide (show ¬ joinOk D n c from fun h => by rw [h.1 i hlt] at hk; cases hk)
        have HK := hide hk
        clear hk
        go_wp2_with fail
        refine (hr _).mono ?_
        rintro e w1 ⟨⟨h1, h2⟩, hb1⟩
        rw [h2 HK.out]
        have hbw1 := hbr.trans (hb1.mono hbr.size)
        clear h1 h2 hr r1 hop hob hbr hb1
        go_wp2_with fail
        go_ret2
        exact ⟨⟨fun h => absurd h HN.out, fun _ => rfl⟩, hbw1⟩
    · have hic : i = c := by omega
      have i2 : ¬ (i : Int) < (c : Int) := by omega
      rw [hic] at hop hob hwz
      have HA2 := hide (show ∀ j, j < c → objOk (D.getD j ByteArray.empty) = true from fun j hj => HA.out j (by omega))
      have hcv := conv_owned (objW D c) u7 _ _ wr hob rfl
      have hcu := fun W => lcut_any (objW D c) n W hn (by omega)
      have hjo : joinOk D n c ↔ cutL (objW D c) n (partsN (objW D c) n) = objL D c := ⟨fun h => h.2, fun h => ⟨HA2.out, h⟩⟩
      have hcl := cutL_length (objW D c) n (partsN (objW D c) n)
      have hpn : partsN (objW D c) n ≤ 6401 := by
        unfold partsN
        split
        · omega
        · have := Nat.div_le_self ((objW D c).size + n - 1) n
          rw [Nat.div_le_iff_le_mul_add_pred (by omega)]
          have : (objW D c).size ≤ n * (objW D c).size := Nat.le_mul_of_pos_left _ (by omega)
          have : n * (objW D c).size ≤ n * 6401 := Nat.mul_le_mul_left n (by omega)
          omega
      have hll := objL_length D c
      obtain ⟨X, hX⟩ : ∃ X, X = objW D c := ⟨_, rfl⟩
      obtain ⟨C, hC⟩ : ∃ C, C = cutL (objW D c) n (partsN (objW D c) n) := ⟨_, rfl⟩
      obtain ⟨pn, hpN⟩ : ∃ pn, pn = partsN (objW D c) n := ⟨_, rfl⟩
      rw [← hC] at hcl hjo hcu
      rw [← hpN] at hcl hpn hcu
      rw [← hX] at hcv hcu
      have htp := owns_texts hop hll.symm
      have HJ := hide hjo
      have HX := hide hX
      have HCL := hide hcl
      have Hic := hide hic
      clear hjo hX hC hpN hic hlt hcl hop hob hwz hll HRD HWS HT
      go_wp2_with fail
      refine (hcu _).mono ?_
      rintro e w1 ⟨v1, rfl, hown1, hb1⟩
      have hbw1 := hbr.trans (hb1.mono hbr.size)
      have htp1 := htp.on hb1
      have htc := owns_texts hown1 HCL.out.symm
      have hsm := lsame_any v1 u6 C (objL D c) w1 (by rw [HCL.out]; omega) htc htp1
      clear hcu hown1 hb1 htp htp1 htc hbr
      go_wp2_with fail
      refine hsm.mono ?_
      rintro e w2 ⟨h1, h2, hb2⟩
      have hbw2 := hbw1.trans (hb2.mono hbw1.size)
      clear hsm hb2 hbw1
      by_cases hj : C = objL D c
      · rw [h1 hj]
        have HJJ := hide (HJ.out.2 hj)
        clear h1 h2 hj
        go_wp2_with fail
        go_ret2
        exact ⟨⟨fun _ => by rw [← HX.out]; rfl, fun h => absurd HJJ.out h⟩, hbw2⟩
      · rw [h2 hj]
        have HJJ := hide (show ¬ joinOk D n c from fun h => hj (HJ.out.1 h))
        clear h1 h2 hj
        go_wp2_with fail
        go_ret2
        exact ⟨⟨fun h => absurd h HJJ.out, fun _ => rfl⟩, hbw2⟩

end Go.Proofs.Ytnjaofkieajnlab

/- The document's own inbox: Whole. -/
namespace Go.Proofs.Ytnjaofkieajnlab
open Go.RowKit

theorem objE_cases (c : CS) : (objE c).2 = 0 ∨ (objE c).2 = 5 ∨ (objE c).2 = 8 := by
  unfold objE
  split
  · split
    · exact Or.inl rfl
    · exact Or.inr (Or.inr rfl)
  · exact Or.inr (Or.inl rfl)

theorem objE_size {c : CS} (h : CSok c) : (objE c).1.size ≤ 320 := by
  unfold objE
  split
  · rename_i hk
    split
    · show (objText (joinTo (csG c) c.K)).size ≤ 320
      have hs := joinTo_size (csG c) c.z (csG_size h hk.1) c.K
      have sp := h.spec hk.1
      have hb : c.K * c.z ≤ 320 := Nat.le_trans (Nat.mul_le_mul sp.hK.2 sp.hz.2) (by decide)
      unfold objText
      split
      · rw [ByteArray.size_extract]; omega
      · show 0 ≤ 320; omega
    · show 0 ≤ 320; omega
  · show 0 ≤ 320; omega

theorem wholeTo_size {s : IS} (h : ISok s) (i : Nat) (hi : i ≤ s.parts.length) : (wholeTo s i).size ≤ i * 320 := by
  induction i with
  | zero => exact Nat.zero_le _
  | succ i ih =>
    show (wholeTo s i ++ (objE (s.parts.getD i CS.zero)).1).size ≤ _
    have h1 := ih (by omega)
    have h2 := objE_size (h.part (i := i) (by omega)).1
    rw [ByteArray.size_append]
    omega

/-- The objects of the first parts. -/
def objsTo (s : IS) : Nat → List ByteArray
  | 0 => []
  | i + 1 => objsTo s i ++ [(objE (s.parts.getD i CS.zero)).1]

theorem objsTo_length (s : IS) (i : Nat) : (objsTo s i).length = i := by
  induction i with
  | zero => rfl
  | succ i ih => show (objsTo s i ++ [_]).length = _; rw [List.length_append, ih]; rfl

theorem objsTo_getD (s : IS) (n i : Nat) (h : i < n) : (objsTo s n).getD i ByteArray.empty = (objE (s.parts.getD i CS.zero)).1 := by
  induction n with
  | zero => omega
  | succ n ih =>
    show (objsTo s n ++ [(objE (s.parts.getD n CS.zero)).1]).getD i ByteArray.empty = _
    rw [List.getD_eq_getElem?_getD]
    by_cases e : i < n
    · rw [List.getElem?_append_left (by rw [objsTo_length]; exact e), ← List.getD_eq_getElem?_getD]; exact ih e
    · have : i = n := by omega
      subst this
      rw [List.getElem?_append_right (by rw [objsTo_length]; exact Nat.le_refl _), objsTo_length, Nat.sub_self]; rfl

theorem any_iff (s : IS) : isOpen s = true ↔ ∃ i, i < s.parts.length ∧ (objE (s.parts.getD i CS.zero)).2 = 5 := by
  unfold isOpen
  rw [List.any_eq_true]
  constructor
  · rintro ⟨c, hc, h⟩
    obtain ⟨i, hi, rfl⟩ := List.mem_iff_getElem.1 hc
    exact ⟨i, hi, by rw [List.getD_eq_getElem?_getD, List.getElem?_eq_getElem hi]; exact decide_eq_true_iff.1 h⟩
  · rintro ⟨i, hi, h⟩
    exact ⟨_, getD_mem hi CS.zero, decide_eq_true_iff.2 h⟩

theorem all_iff (s : IS) : isForm s = true ↔ ∀ i, i < s.parts.length → (objE (s.parts.getD i CS.zero)).2 = 0 := by
  unfold isForm
  rw [List.all_eq_true]
  constructor
  · intro h i hi
    exact decide_eq_true_iff.1 (h _ (getD_mem hi CS.zero))
  · intro h c hc
    obtain ⟨i, hi, rfl⟩ := List.mem_iff_getElem.1 hc
    have := h i hi
    rw [List.getD_eq_getElem?_getD, List.getElem?_eq_getElem hi] at this
    exact decide_eq_true_iff.2 this

theorem cut_iff (s : IS) (T : ByteArray) : isCut s T = true ↔ ∀ p, p < s.parts.length → (objE (s.parts.getD p CS.zero)).1 = partT T (s.K * s.z - 2) p := by
  unfold isCut
  rw [List.all_eq_true]
  exact ⟨fun h p hp => decide_eq_true_iff.1 (h p (List.mem_range.2 hp)), fun h p hp => decide_eq_true_iff.2 (h p (List.mem_range.1 hp))⟩

theorem whole_open {s : IS} (h : s.parts = [] ∨ ∃ i, i < s.parts.length ∧ (objE (s.parts.getD i CS.zero)).2 = 5) : wholeE s = (⟨#[]⟩, 5) := by
  unfold wholeE
  rw [if_pos (h.imp id (any_iff s).2)]

theorem whole_no {s : IS} (h0 : s.parts ≠ []) (h1 : ∀ i, i < s.parts.length → (objE (s.parts.getD i CS.zero)).2 ≠ 5) (h2 : ¬ ((∀ i, i < s.parts.length → (objE (s.parts.getD i CS.zero)).2 = 0) ∧ 3 ≤ s.K * s.z ∧ partsN (wholeTo s s.parts.length) (s.K * s.z - 2) = s.parts.length ∧ (∀ p, p < s.parts.length → (objE (s.parts.getD p CS.zero)).1 = partT (wholeTo s s.parts.length) (s.K * s.z - 2) p))) : wholeE s = (⟨#[]⟩, 8) := by
  unfold wholeE
  rw [if_neg (fun h => by
    rcases h with h | h
    · exact h0 h
    · obtain ⟨i, hi, h⟩ := (any_iff s).1 h
      exact h1 i hi h), if_neg (fun ⟨a, b, c, d⟩ => h2 ⟨(all_iff s).1 a, b, c, (cut_iff s _).1 d⟩)]

theorem whole_yes {s : IS} (h0 : s.parts ≠ []) (h1 : ∀ i, i < s.parts.length → (objE (s.parts.getD i CS.zero)).2 = 0) (h2 : 3 ≤ s.K * s.z) (h3 : partsN (wholeTo s s.parts.length) (s.K * s.z - 2) = s.parts.length) (h4 : ∀ p, p < s.parts.length → (objE (s.parts.getD p CS.zero)).1 = partT (wholeTo s s.parts.length) (s.K * s.z - 2) p) : wholeE s = (wholeTo s s.parts.length, 0) := by
  unfold wholeE
  rw [if_neg (fun h => by
    rcases h with h | h
    · exact h0 h
    · obtain ⟨i, hi, h⟩ := (any_iff s).1 h
      rw [h1 i hi] at h
      cases h), if_pos ⟨(all_iff s).2 h1, h2, h3, (cut_iff s _).2 h4⟩]

end Go.Proofs.Ytnjaofkieajnlab

/- The program's inbox: Whole and Lacks, by what was taken. -/
namespace Go.Proofs.Ytnjaofkieajnlab
open Go.RowKit

theorem wo_kn0 (n : Nat) (f : Fct) : wo kn0 n f = f := by
  induction n with
  | zero => rfl
  | succ n ih =>
    show wo kn0 n (woStep kn0 n f) = f
    have e : woStep kn0 n f = f := by unfold woStep; rw [if_neg (fun h => h.2 rfl)]
    rw [e]
    exact ih

theorem left_kn0 (x : Nat) (p : ByteArray) : left kn0 x p = (x, p) := wo_kn0 20 (x, p)

set_option maxRecDepth 100000 in
set_option maxHeartbeats 4000000 in
theorem lwhole_none (p : Nat) (tt : TypeId) (K M O S z m : Nat) (ks : Nat → Kn) (w : World) (hc : InbAt w p tt 0 K M O S z m ks) :
    Calls Try.prog 39 #[.pointer (some ⟨p, 0, none⟩)] w fun e w' => e = .returned (.tuple #[.string ⟨#[]⟩, .int .i64 5]) ∧ w' = w := by
  obtain ⟨c0, _⟩ := hc.head
  have c0' : w.cell? ⟨p, 0, none⟩ = some (.int .i64 0) := c0
  clear hc c0
  go_enter Try.func39, Try.ntmps39
  go_wp2_with fail
  go_ret2
  exact ⟨rfl, rfl⟩

set_option maxRecDepth 100000 in
set_option maxHeartbeats 8000000 in
theorem lwhole_has (p : Nat) (tt : TypeId) (c K M O S z : Nat) (ks : Nat → Kn) (F : Nat → Nat → ByteArray × Bool) (w : World) (h1 : 1 ≤ c ∧ c ≤ 20) (hK : 1 ≤ K ∧ K ≤ 20) (hM : M ≤ 20) (hz : 1 ≤ z ∧ z ≤ 16) (hkn : ∀ i, i < c → KnOk K z (ks i)) (hc : InbAt w p tt c K M O S z c ks)
    (hF : ∀ i, i < c → ∀ j, j < K → ((F i j).2 = true ↔ (left (ks i) (ofs K M O S j) (zeroB z)).1 = 0)) (hF1 : ∀ i, i < c → ∀ j, j < K → (F i j).1 = (left (ks i) (ofs K M O S j) (zeroB z)).2) (hFs : ∀ i, i < c → ∀ j, (F i j).1.size = z) (PA PJ : Prop) (hPA : PA ↔ ∀ i, i < c → ∀ j, j < K → (F i j).2 = true) (hPJ : PJ ↔ (3 ≤ K * z ∧ joinOk (dataL K F c) (K * z - 2) c)) :
    Calls Try.prog 39 #[.pointer (some ⟨p, 0, none⟩)] w fun e w' => ((¬ PA → e = .returned (.tuple #[.string ⟨#[]⟩, .int .i64 5])) ∧ (PA → PJ → e = .returned (.tuple #[.string (objW (dataL K F c) c), .int .i64 0])) ∧ (PA → ¬ PJ → e = .returned (.tuple #[.string ⟨#[]⟩, .int .i64 8]))) ∧ Below w.heap.size w w' := by
  obtain ⟨c0, _⟩ := hc.head
  have hb : ((c : Int) == 0) = false := by simp; omega
  have hda := ldata_any p tt c K M O S z ks F w hK hM hz h1.2 hkn hc hF hF1 hFs
  have hN2 : K * z ≤ 320 := Nat.le_trans (Nat.mul_le_mul hK.2 hz.2) (by decide)
  have hDs : ∀ i, ((dataL K F c).getD i ByteArray.empty).size ≤ 320 := fun i => by
    by_cases hi : i < c
    · unfold dataL
      rw [List.getD_eq_getElem?_getD, List.getElem?_map, List.getElem?_range hi]
      show (joinTo (F i) K).size ≤ 320
      rw [joinTo_size (F i) z (hFs i hi)]
      exact hN2
    · rw [List.getD_eq_getElem?_getD, List.getElem?_eq_none (by rw [dataL_length]; omega)]
      exact Nat.zero_le _
  have hDl := dataL_length K F c
  have hro := fun W => room_any K z W hK.2 hz.2
  have hj1 := fun v W (h3 : 3 ≤ K * z) hT => ljoined_any v (dataL K F c) (K * z - 2) c W (by omega) hDl h1.2 hDs hT
  have hmul : (K : Int) * (z : Int) = ((K * z : Nat) : Int) := by simp
  have Hmul := hide hmul
  clear hmul
  have HF := hide hPA
  have HJ := hide hPJ
  have hcO := hc
  clear hF hF1 hFs hkn hPA hPJ hDs hc
  rw [← HF.out] at hda
  generalize dataL K F c = D at *
  go_enter Try.func39, Try.ntmps39
  go_wp2_with fail
  refine hda.mono ?_
  rintro e w1 ⟨⟨ha, hn⟩, hb1⟩
  have hc1 := hcO.on (Nat.le_refl _) hb1
  obtain ⟨d0, d1, d2, d3, d4, d5⟩ := hc1.head
  clear hda c0
  by_cases hall : PA
  · obtain ⟨v, rfl, hown⟩ := ha hall
    have hT := owns_texts hown hDl.symm
    have HP := hide hall
    clear ha hn hall hown
    go_upto_region 6 with fail
    go_region_held3 (fun w' => w'.cell? ⟨p, 1, none⟩ = some (.int .i64 (K : Int)) ∧ w'.cell? ⟨p, 5, none⟩ = some (.int .i64 (z : Int)))
      (first | (exact ⟨d1, d5⟩) | go_keep)
      (first
        | (go_at_call 47; refine (hro _).mono ?_; rintro e w2 ⟨rfl, h2⟩; obtain rfl := h2.symm))
    all_goals
      have hTd : TextsAt w1.drew v D := hT
      have hbd : Below w.heap.size w w1.drew := hb1.drew
      (try (rename_i hheld; clear hheld))
      generalize w1.drew = V at *
      clear hT hb1 hc1 d0 d1 d2 d3 d4 d5 hcO
      by_cases h3 : 3 ≤ K * z
      · have hjj := hj1 v V h3 hTd
        have hmul2 : (K : Int) * (z : Int) - 2 = ((K * z - 2 : Nat) : Int) := by rw [Hmul.out]; omega
        rw [← hmul2] at hjj
        have H3 := hide h3
        clear hmul2 hj1 h3
        go_wp2_with fail
        refine hjj.mono ?_
        rintro e w2 ⟨⟨q1, q2⟩, hb2⟩
        have hbw2 := hbd.trans (hb2.mono hbd.size)
        clear hjj hb2 hbd hTd
        by_cases hjo : joinOk D (K * z - 2) c
        · rw [q1 hjo]
          have HPJ := hide (HJ.out.2 ⟨H3.out, hjo⟩)
          clear q1 q2 hjo
          generalize hX : objW D c = X at *
          have HX := hide hX
          clear hX
          go_wp2_with fail
          go_ret2
          exact ⟨⟨fun h => absurd HP.out h, fun _ _ => by rw [← HX.out]; rfl, fun _ h => absurd HPJ.out h⟩, hbw2⟩
        · rw [q2 hjo]
          have HPJ := hide (show ¬ PJ from fun h => hjo (HJ.out.1 h).2)
          clear q1 q2 hjo
          go_wp2_with fail
          go_ret2
          exact ⟨⟨fun h => absurd HP.out h, fun _ h => absurd h HPJ.out, fun _ _ => rfl⟩, hbw2⟩
      · have hjj := ljoined_small v ((K : Int) * (z : Int) - 2) V (by rw [Hmul.out]; omega)
        have HPJ := hide (show ¬ PJ from fun h => h3 (HJ.out.1 h).1)
        clear hj1 h3
        go_wp2_with fail
        refine hjj.mono ?_
        rintro e w2 ⟨rfl, hb2⟩
        have hbw2 := hbd.trans (hb2.mono hbd.size)
        clear hjj hb2 hbd hTd
        go_wp2_with fail
        go_ret2
        exact ⟨⟨fun h => absurd HP.out h, fun _ h => absurd h HPJ.out, fun _ _ => rfl⟩, hbw2⟩
  · rw [hn hall]
    have HP := hide hall
    clear ha hn hall
    go_wp2_with fail
    go_ret2
    exact ⟨⟨fun _ => rfl, fun h => absurd h HP.out, fun h => absurd h HP.out⟩, hb1⟩

/-- What is told of a part's data. -/
def isG (s : IS) (i j : Nat) : ByteArray × Bool := ((left (s.parts.getD i CS.zero).kn (ofs s.K s.M s.O s.S j) (zeroB s.z)).2, decide ((left (s.parts.getD i CS.zero).kn (ofs s.K s.M s.O s.S j) (zeroB s.z)).1 = 0))

theorem ISok.kn {s : IS} (h : ISok s) {i : Nat} (hi : i < s.parts.length) : KnOk s.K s.z (s.parts.getD i CS.zero).kn := by
  obtain ⟨hc, hp⟩ := h.part hi
  cases hk : (s.parts.getD i CS.zero).tk with
  | true =>
    have := (hc.rel hk).ok
    obtain ⟨e1, _, _, _, e5⟩ := hp hk
    rwa [e1, e5] at this
  | false =>
    rw [hc.none hk]
    exact kn0_ok _ _

theorem isG_size {s : IS} (h : ISok s) {i : Nat} (hi : i < s.parts.length) (j : Nat) : (isG s i j).1.size = s.z := (left_ok (h.kn hi) (ofs s.K s.M s.O s.S j) (zeroB s.z) (zeroB_size s.z)).size

theorem isG_taken {s : IS} (h : ISok s) {i : Nat} (hi : i < s.parts.length) (hk : (s.parts.getD i CS.zero).tk = true) : isG s i = csG (s.parts.getD i CS.zero) := by
  obtain ⟨e1, e2, e3, e4, e5⟩ := (h.part hi).2 hk
  funext j
  unfold isG csG
  rw [e1, e2, e3, e4, e5]

theorem open_iff {s : IS} (h : ISok s) {i : Nat} (hi : i < s.parts.length) : (objE (s.parts.getD i CS.zero)).2 = 5 ↔ ¬ ∀ j, j < s.K → (isG s i j).2 = true := by
  have sp := h.spec (fun e => by rw [e] at hi; exact absurd hi (Nat.not_lt_zero _))
  cases hk : (s.parts.getD i CS.zero).tk with
  | true =>
    obtain ⟨e1, _⟩ := (h.part hi).2 hk
    rw [isG_taken h hi hk, ← e1, ← csAll_iff]
    unfold objE
    cases ha : csAll (s.parts.getD i CS.zero) with
    | true =>
      rw [if_pos ⟨hk, rfl⟩]
      split <;> simp
    | false => rw [if_neg (by simp)]; simp
  | false =>
    have hz := (h.part hi).1.none hk
    unfold objE
    rw [if_neg (by rw [hk]; simp)]
    refine ⟨fun _ hall => ?_, fun _ => rfl⟩
    have := hall 0 (by have := sp.hK; omega)
    unfold isG at this
    rw [hz] at this
    have h2 : (left kn0 (ofs s.K s.M s.O s.S 0) (zeroB s.z)).1 = 0 := of_decide_eq_true this
    rw [left_kn0, ofs_data _ _ _ _ _ (by have := sp.hK; omega)] at h2
    exact absurd h2 (by show ¬ 2 ^ 0 = 0; decide)

theorem full_obj {s : IS} (h : ISok s) {i : Nat} (hi : i < s.parts.length) (hall : ∀ j, j < s.K → (isG s i j).2 = true) : ((objE (s.parts.getD i CS.zero)).2 = 0 ↔ objOk (joinTo (isG s i) s.K) = true) ∧ (objOk (joinTo (isG s i) s.K) = true → (objE (s.parts.getD i CS.zero)).1 = objText (joinTo (isG s i) s.K)) := by
  have hk : (s.parts.getD i CS.zero).tk = true := by
    cases hk : (s.parts.getD i CS.zero).tk with
    | true => rfl
    | false =>
      have h5 : (objE (s.parts.getD i CS.zero)).2 = 5 := by unfold objE; rw [if_neg (by rw [hk]; simp)]
      exact absurd hall ((open_iff h hi).1 h5)
  obtain ⟨e1, _⟩ := (h.part hi).2 hk
  have hg := isG_taken h hi hk
  have hca : csAll (s.parts.getD i CS.zero) = true := by
    rw [csAll_iff, e1, ← hg]; exact hall
  have ho : objE (s.parts.getD i CS.zero) = if objOk (joinTo (isG s i) s.K) = true then (objText (joinTo (isG s i) s.K), 0) else (⟨#[]⟩, 8) := by
    unfold objE
    rw [if_pos ⟨hk, hca⟩, hg, e1]
  rw [ho]
  cases hj : objOk (joinTo (isG s i) s.K) with
  | true => rw [if_pos rfl]; exact ⟨⟨fun _ => rfl, fun _ => rfl⟩, fun _ => rfl⟩
  | false => rw [if_neg (by simp)]; exact ⟨⟨fun e => (by cases e), fun e => (by cases e)⟩, fun e => (by cases e)⟩

theorem dataL_getD (K : Nat) (F : Nat → Nat → ByteArray × Bool) (n i : Nat) (h : i < n) : (dataL K F n).getD i ByteArray.empty = joinTo (F i) K := by
  unfold dataL
  rw [List.getD_eq_getElem?_getD, List.getElem?_map, List.getElem?_range h]; rfl

theorem whole_same {s : IS} (hok : ∀ i, i < s.parts.length → (objE (s.parts.getD i CS.zero)).1 = objText (joinTo (isG s i) s.K)) (n : Nat) (hn : n ≤ s.parts.length) : wholeTo s n = objW (dataL s.K (isG s) s.parts.length) n := by
  induction n with
  | zero => rfl
  | succ n ih =>
    show wholeTo s n ++ _ = objW _ n ++ _
    rw [ih (by omega), hok n (by omega), dataL_getD _ _ _ _ (by omega)]

theorem list_eq_range {α : Type} {n m : Nat} {f g : Nat → α} : (List.range n).map f = (List.range m).map g ↔ (n = m ∧ ∀ i, i < m → f i = g i) := by
  constructor
  · intro h
    have hl : n = m := by have := congrArg List.length h; simpa using this
    subst hl
    refine ⟨rfl, fun i hi => ?_⟩
    have := congrArg (fun l => l[i]?) h
    simpa [List.getElem?_range hi] using this
  · rintro ⟨rfl, h⟩
    exact List.map_congr_left (fun i hi => h i (List.mem_range.1 hi))

set_option maxHeartbeats 2000000 in
theorem owhole_any (p : Nat) (tt : TypeId) (s : IS) (w : World) (hc : ProgInb w p tt s) (hs : ISok s) :
    Calls Try.prog 39 #[.pointer (some ⟨p, 0, none⟩)] w fun e w' => e = .returned (.tuple #[.string (wholeE s).1, .int .i64 (wholeE s).2]) ∧ Below w.heap.size w w' := by
  by_cases hn : s.parts = []
  · rw [whole_open (Or.inl hn)]
    have hz := hs.none hn
    subst hz
    exact (lwhole_none p tt _ _ _ _ _ _ _ w hc).mono fun e w' ⟨h1, h2⟩ => ⟨h1, by rw [h2]; exact Below.refl _ _⟩
  · have sp := hs.spec hn
    have hlen : 1 ≤ s.parts.length := by
      rcases Nat.eq_zero_or_pos s.parts.length with h | h
      · exact absurd (List.eq_nil_of_length_eq_zero h) hn
      · exact h
    refine (lwhole_has p tt s.parts.length s.K s.M s.O s.S s.z _ (isG s) w ⟨hlen, hs.len⟩ sp.hK sp.hM.2 sp.hz (fun i hi => hs.kn hi) hc (fun i _ j _ => decide_eq_true_iff) (fun i _ j _ => rfl) (fun i hi j => isG_size hs hi j) (∀ i, i < s.parts.length → ∀ j, j < s.K → (isG s i j).2 = true) (3 ≤ s.K * s.z ∧ joinOk (dataL s.K (isG s) s.parts.length) (s.K * s.z - 2) s.parts.length) Iff.rfl Iff.rfl).mono fun e w' ⟨⟨h5, h0, h8⟩, hb⟩ => ⟨?_, hb⟩
    by_cases hall : ∀ i, i < s.parts.length → ∀ j, j < s.K → (isG s i j).2 = true
    · have hob := fun i hi => full_obj hs (i := i) hi (hall i hi)
      have hne5 : ∀ i, i < s.parts.length → (objE (s.parts.getD i CS.zero)).2 ≠ 5 := fun i hi e => ((open_iff hs hi).1 e) (hall i hi)
      by_cases hform : ∀ i, i < s.parts.length → objOk (joinTo (isG s i) s.K) = true
      · have hok1 := fun i hi => (hob i hi).2 (hform i hi)
        have hW := whole_same hok1 s.parts.length (Nat.le_refl _)
        have hjo : joinOk (dataL s.K (isG s) s.parts.length) (s.K * s.z - 2) s.parts.length ↔ (partsN (wholeTo s s.parts.length) (s.K * s.z - 2) = s.parts.length ∧ ∀ q, q < s.parts.length → (objE (s.parts.getD q CS.zero)).1 = partT (wholeTo s s.parts.length) (s.K * s.z - 2) q) := by
          unfold joinOk cutL objL
          rw [← hW, list_eq_range]
          constructor
          · rintro ⟨_, e1, e2⟩
            exact ⟨e1, fun q hq => by rw [e2 q hq, dataL_getD _ _ _ _ hq, hok1 q hq]⟩
          · rintro ⟨e1, e2⟩
            exact ⟨fun i hi => by rw [dataL_getD _ _ _ _ hi]; exact hform i hi, e1, fun q hq => by rw [dataL_getD _ _ _ _ hq, ← e2 q hq, hok1 q hq]⟩
        by_cases hJ : 3 ≤ s.K * s.z ∧ joinOk (dataL s.K (isG s) s.parts.length) (s.K * s.z - 2) s.parts.length
        · rw [h0 hall hJ, whole_yes hn (fun i hi => ((hob i hi).1).2 (hform i hi)) hJ.1 (hjo.1 hJ.2).1 (hjo.1 hJ.2).2, hW]
        · rw [h8 hall hJ, whole_no hn hne5 (fun ⟨_, a, b, d⟩ => hJ ⟨a, hjo.2 ⟨b, d⟩⟩)]
      · rw [h8 hall (fun hJ => hform (fun i hi => by have := hJ.2.1 i hi; rwa [dataL_getD _ _ _ _ hi] at this)), whole_no hn hne5 (fun hh => hform (fun i hi => ((hob i hi).1).1 (hh.1 i hi)))]
    · rw [h5 hall]
      have hex : ∃ i, i < s.parts.length ∧ (objE (s.parts.getD i CS.zero)).2 = 5 := Classical.byContradiction (fun hno => hall (fun i hi => Classical.byContradiction (fun hx => hno ⟨i, hi, (open_iff hs hi).2 hx⟩)))
      rw [whole_open (Or.inr hex)]

theorem lack_kn {s : IS} (h : ISok s) {i : Nat} (hi : i < s.parts.length) : lackC s.K (s.parts.getD i CS.zero) = openK (s.parts.getD i CS.zero).kn s.K := by
  unfold lackC
  cases hk : (s.parts.getD i CS.zero).tk with
  | true => rw [if_pos rfl, ((h.part hi).2 hk).1]
  | false => rw [if_neg (by simp), (h.part hi).1.none hk]; exact (openK_kn0 s.K).symm

theorem lacks_same {s : IS} (h : ISok s) (n : Nat) (hn : n ≤ s.parts.length) : lackTo s n = lacksTo s.K (fun j => (s.parts.getD j CS.zero).kn) n := by
  induction n with
  | zero => rfl
  | succ n ih =>
    show lackTo s n + _ = lacksTo s.K _ n + _
    rw [ih (by omega), lack_kn h (by omega)]

theorem olacks_any (p : Nat) (tt : TypeId) (s : IS) (w : World) (hc : ProgInb w p tt s) (hs : ISok s) :
    Calls Try.prog 40 #[.pointer (some ⟨p, 0, none⟩)] w fun e w' => e = .returned (.int .i64 (lackE s)) ∧ w' = w := by
  unfold lackE
  by_cases hn : s.parts = []
  · rw [if_pos hn]
    have hz := hs.none hn
    subst hz
    exact llacks_none p tt _ _ _ _ _ _ _ w hc
  · rw [if_neg hn, lacks_same hs s.parts.length (Nat.le_refl _)]
    have hlen : 1 ≤ s.parts.length := by
      rcases Nat.eq_zero_or_pos s.parts.length with h | h
      · exact absurd (List.eq_nil_of_length_eq_zero h) hn
      · exact h
    exact llacks_has p tt s.parts.length s.K s.M s.O s.S s.z _ w ⟨hlen, hs.len⟩ (hs.spec hn).hK.2 hc

end Go.Proofs.Ytnjaofkieajnlab
