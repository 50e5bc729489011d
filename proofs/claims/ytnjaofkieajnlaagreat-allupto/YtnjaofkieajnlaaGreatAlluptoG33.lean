/- Texts of the proof, part 34. -/
import Derived.Test.YtnjaofkieajnlaaGreatAlluptoG31
import Derived.Test.YtnjaofkieajnlaaGreatAlluptoG32

/- The document's own inbox: Whole. -/
namespace Go.Proofs.YtnjaofkieajnlaaGreat
open Go.RowKit

theorem objE_cases (c : CS) : (objE c).2 = 0 ∨ (objE c).2 = 5 ∨ (objE c).2 = 8 := by
  unfold objE
  split
  · split
    · exact Or.inl rfl
    · exact Or.inr (Or.inr rfl)
  · exact Or.inr (Or.inl rfl)

theorem objE_size {c : CS} (h : CSok c) : (objE c).1.size ≤ 320 := by
  unfold objE
  split
  · rename_i hk
    split
    · show (objText (joinTo (csG c) c.K)).size ≤ 320
      have hs := joinTo_size (csG c) c.z (csG_size h hk.1) c.K
      have sp := h.spec hk.1
      have hb : c.K * c.z ≤ 320 := Nat.le_trans (Nat.mul_le_mul sp.hK.2 sp.hz.2) (by decide)
      unfold objText
      split
      · rw [ByteArray.size_extract]; omega
      · show 0 ≤ 320; omega
    · show 0 ≤ 320; omega
  · show 0 ≤ 320; omega

theorem wholeTo_size {s : IS} (h : ISok s) (i : Nat) (hi : i ≤ s.parts.length) : (wholeTo s i).size ≤ i * 320 := by
  induction i with
  | zero => exact Nat.zero_le _
  | succ i ih =>
    show (wholeTo s i ++ (objE (s.parts.getD i CS.zero)).1).size ≤ _
    have h1 := ih (by omega)
    have h2 := objE_size (h.part (i := i) (by omega)).1
    rw [ByteArray.size_append]
    omega

/-- The objects of the first parts. -/
def objsTo (s : IS) : Nat → List ByteArray
  | 0 => []
  | i + 1 => objsTo s i ++ [(objE (s.parts.getD i CS.zero)).1]

theorem objsTo_length (s : IS) (i : Nat) : (objsTo s i).length = i := by
  induction i with
  | zero => rfl
  | succ i ih => show (objsTo s i ++ [_]).length = _; rw [List.length_append, ih]; rfl

theorem objsTo_getD (s : IS) (n i : Nat) (h : i < n) : (objsTo s n).getD i ByteArray.empty = (objE (s.parts.getD i CS.zero)).1 := by
  induction n with
  | zero => omega
  | succ n ih =>
    show (objsTo s n ++ [(objE (s.parts.getD n CS.zero)).1]).getD i ByteArray.empty = _
    rw [List.getD_eq_getElem?_getD]
    by_cases e : i < n
    · rw [List.getElem?_append_left (by rw [objsTo_length]; exact e), ← List.getD_eq_getElem?_getD]; exact ih e
    · have : i = n := by omega
      subst this
      rw [List.getElem?_append_right (by rw [objsTo_length]; exact Nat.le_refl _), objsTo_length, Nat.sub_self]; rfl

theorem any_iff (s : IS) : isOpen s = true ↔ ∃ i, i < s.parts.length ∧ (objE (s.parts.getD i CS.zero)).2 = 5 := by
  unfold isOpen
  rw [List.any_eq_true]
  constructor
  · rintro ⟨c, hc, h⟩
    obtain ⟨i, hi, rfl⟩ := List.mem_iff_getElem.1 hc
    exact ⟨i, hi, by rw [List.getD_eq_getElem?_getD, List.getElem?_eq_getElem hi]; exact decide_eq_true_iff.1 h⟩
  · rintro ⟨i, hi, h⟩
    exact ⟨_, getD_mem hi CS.zero, decide_eq_true_iff.2 h⟩

theorem all_iff (s : IS) : isForm s = true ↔ ∀ i, i < s.parts.length → (objE (s.parts.getD i CS.zero)).2 = 0 := by
  unfold isForm
  rw [List.all_eq_true]
  constructor
  · intro h i hi
    exact decide_eq_true_iff.1 (h _ (getD_mem hi CS.zero))
  · intro h c hc
    obtain ⟨i, hi, rfl⟩ := List.mem_iff_getElem.1 hc
    have := h i hi
    rw [List.getD_eq_getElem?_getD, List.getElem?_eq_getElem hi] at this
    exact decide_eq_true_iff.2 this

theorem cut_iff (s : IS) (T : ByteArray) : isCut s T = true ↔ ∀ p, p < s.parts.length → (objE (s.parts.getD p CS.zero)).1 = partT T (s.K * s.z - 2) p := by
  unfold isCut
  rw [List.all_eq_true]
  exact ⟨fun h p hp => decide_eq_true_iff.1 (h p (List.mem_range.2 hp)), fun h p hp => decide_eq_true_iff.2 (h p (List.mem_range.1 hp))⟩

theorem whole_open {s : IS} (h : s.parts = [] ∨ ∃ i, i < s.parts.length ∧ (objE (s.parts.getD i CS.zero)).2 = 5) : wholeE s = (⟨#[]⟩, 5) := by
  unfold wholeE
  rw [if_pos (h.imp id (any_iff s).2)]

theorem whole_no {s : IS} (h0 : s.parts ≠ []) (h1 : ∀ i, i < s.parts.length → (objE (s.parts.getD i CS.zero)).2 ≠ 5) (h2 : ¬ ((∀ i, i < s.parts.length → (objE (s.parts.getD i CS.zero)).2 = 0) ∧ 3 ≤ s.K * s.z ∧ partsN (wholeTo s s.parts.length) (s.K * s.z - 2) = s.parts.length ∧ (∀ p, p < s.parts.length → (objE (s.parts.getD p CS.zero)).1 = partT (wholeTo s s.parts.length) (s.K * s.z - 2) p))) : wholeE s = (⟨#[]⟩, 8) := by
  unfold wholeE
  rw [if_neg (fun h => by
    rcases h with h | h
    · exact h0 h
    · obtain ⟨i, hi, h⟩ := (any_iff s).1 h
      exact h1 i hi h), if_neg (fun ⟨a, b, c, d⟩ => h2 ⟨(all_iff s).1 a, b, c, (cut_iff s _).1 d⟩)]

theorem whole_yes {s : IS} (h0 : s.parts ≠ []) (h1 : ∀ i, i < s.parts.length → (objE (s.parts.getD i CS.zero)).2 = 0) (h2 : 3 ≤ s.K * s.z) (h3 : partsN (wholeTo s s.parts.length) (s.K * s.z - 2) = s.parts.length) (h4 : ∀ p, p < s.parts.length → (objE (s.parts.getD p CS.zero)).1 = partT (wholeTo s s.parts.length) (s.K * s.z - 2) p) : wholeE s = (wholeTo s s.parts.length, 0) := by
  unfold wholeE
  rw [if_neg (fun h => by
    rcases h with h | h
    · exact h0 h
    · obtain ⟨i, hi, h⟩ := (any_iff s).1 h
      rw [h1 i hi] at h
      cases h), if_pos ⟨(all_iff s).2 h1, h2, h3, (cut_iff s _).2 h4⟩]

set_option maxRecDepth 100000 in
set_option maxHeartbeats 8000000 in
theorem rwhole_any (x : Nat) (hv : Value) (l : List PD) (s : IS) (w : World) (hd : DocInbox w x hv l s) (hs : ISok s) :
    Calls Tryz.prog 43 #[.pointer (some ⟨x, 0, none⟩)] w fun e w' => e = .returned (.tuple #[.string (wholeE s).1, .int .i64 (wholeE s).2]) ∧ Below w.heap.size w w' := by
  obtain ⟨ao, cap, hvs⟩ := hd.shape
  have hlen := hd.parts.len
  have hl20 := hs.len
  rw [← hlen] at hl20
  obtain ⟨c0, _, _, _, c4, c5⟩ := inb_cells hd.box
  have hxl := hd.xlt
  obtain ⟨j0, gi, gz0, gz1, gz2⟩ := info_parts Tryz.infoText
  subst hvs
  have hwo := fun h => whole_open (s := s) h
  have hwn := fun h0 h1 h2 => whole_no (s := s) h0 h1 h2
  have hwy := fun h0 h1 h2 h3 h4 => whole_yes (s := s) h0 h1 h2 h3 h4
  have hws := fun i hi => wholeTo_size hs i hi
  have hne0 : l.length ≠ 0 → s.parts ≠ [] := fun h e => h (by rw [hlen, e]; rfl)
  have he0 : l.length = 0 → s.parts = [] := fun h => List.eq_nil_of_length_eq_zero (by omega)
  rw [← hlen] at hwo hwn hwy hws
  have Hwo := hide hwo
  have Hwn := hide hwn
  have Hwy := hide hwy
  have Hws := hide hws
  have Hne0 := hide hne0
  have He0 := hide he0
  have HD := hide hd
  have HS := hide hs
  have Hlen := hide hlen
  clear hwo hwn hwy hws hd hs hne0 he0 hlen
  go_enter Tryz.func43, Tryz.ntmps43
  go_wp2_with fail
  go_loopw [4, 5, 6, 18] (fun tv fv lv iv wr => ∃ (i : Nat) (fb : Bool), i ≤ l.length ∧ iv = .int .i64 (i : Int) ∧ tv = .string (wholeTo s i) ∧ fv = .bool fb ∧ (fb = true ↔ ∀ j, j < i → (objE (s.parts.getD j CS.zero)).2 = 0) ∧ (∀ j, j < i → (objE (s.parts.getD j CS.zero)).2 ≠ 5) ∧ wr.ownsRow w.heap.size 9 1 lv i (textV (objsTo s i)) ∧ Below w.heap.size w wr) (fun _ _ _ iv _ => l.length - (intOf iv).toNat)
  case atStart => exact ⟨0, true, Nat.zero_le _, rfl, rfl, rfl, ⟨fun _ j hj => absurd hj (Nat.not_lt_zero _), fun _ => rfl⟩, fun j hj => absurd hj (Nat.not_lt_zero _), World.ownsRow_nil _ _ _ _, Below.refl _ _⟩
  case round =>
    clear c0 c4 c5
    obtain ⟨i, fb, hi, rfl, rfl, rfl, hfb, hno, hown, hbr⟩ := hrel
    have hdr := HD.out.on hbr
    obtain ⟨c0, _, _, _, c4, c5⟩ := inb_cells hdr.box
    have hsz := Hws.out i hi
    have Hfb := hide hfb
    have Hno := hide hno
    clear hfb hno
    by_cases hlt : i < l.length
    · obtain ⟨g, cap', hve, hg, cp⟩ := hdr.parts.cell hlt
      have hdc := hdr.parts.each i hlt
      obtain ⟨hok, hpo⟩ := HS.out.part (i := i) (by have := Hlen.out; omega)
      have hnx : wholeTo s (i + 1) = wholeTo s i ++ (objE (s.parts.getD i CS.zero)).1 := rfl
      have hnl : objsTo s (i + 1) = objsTo s i ++ [(objE (s.parts.getD i CS.zero)).1] := rfl
      have hob := robj_any _ _ _ _ _ wr hdc hok
      have hos := objE_size hok
      have hcs := objE_cases (s.parts.getD i CS.zero)
      simp only [Value.slice.injEq] at hve
      obtain ⟨rfl, _, rfl⟩ := hve
      generalize hoe : objE (s.parts.getD i CS.zero) = oe at *
      generalize (l.getD i PD.no).r = r at *
      obtain ⟨ot, oc⟩ := oe
      dsimp only at hnx hnl hob hos hcs
      have Hnx := hide hnx
      have Hnl := hide hnl
      have Hoe := hide hoe
      clear hnx hnl hdc hok hpo hoe hdr
      have i1 : (0 : Int) ≤ (i : Int) := by omega
      have i2 : (i : Int) < (l.length : Int) := by omega
      generalize wholeTo s i = T at *
      have hjs : T.size + ot.size ≤ 10000 := by
        have : i * 320 ≤ 20 * 320 := Nat.mul_le_mul_right _ (by omega)
        omega
      go_wp2_with fail
      refine hob.mono ?_
      rintro e w2 ⟨rfl, hb2⟩
      have hown2 := owns_below hown hb2
      have hbr2 := hbr.trans (hb2.mono hbr.size)
      have hbs := hbr2.size
      clear hob hb2 hown hbr c0 c4 c5 cp
      rcases hcs with rfl | rfl | rfl
      · have hiff : (∀ j, j < i → (objE (s.parts.getD j CS.zero)).2 = 0) ↔ (∀ j, j < i + 1 → (objE (s.parts.getD j CS.zero)).2 = 0) := ⟨fun h j hj => by
            by_cases e : j = i
            · subst e; rw [Hoe.out]
            · exact h j (by omega), fun h j hj => h j (by omega)⟩
        have Hiff := hide hiff
        clear hiff
        cases fb
        all_goals
          go_wp2_with (at_builtin; refine wpList_append_lies _ rfl (.tmp 35) (.tmp 37) 27 rfl w.heap.size 9 j0 (.string ByteArray.empty) 1 16 Tryz.underlying27 gi gz0 gz1 gz2 rfl (by decide) _ _ _ rfl (hown2.alloc _) ⟨w2.heap.size, 0, none⟩ 1 1 [.string ot] rfl rfl (one_news _ _ _) (one_oneCell rfl) (by decide) (by unfold maxLen; omega) (by omega) (by simp; omega) (w2.heap.size + 1) (by simp) ?_)
          intro g5 cap5 w5 hown5 hgr5 hat5 hlt5
          have hb5 : Below w.heap.size w w5 := hbr2.grown (grownBy_of_alloc hgr5) hbr2.size (fun k e => (hown2.lt k e).1)
          clear hown2 hbr2 hgr5 hat5
          go_wp2_with fail
          go_roundw
          case rel =>
            refine ⟨i + 1, _, by omega, by go_num, by rw [Hnx.out], rfl, ?_, fun j hj => ?_, by rw [Hnl.out, textV_append]; exact hown5, hb5⟩
            · first | exact Hfb.out.trans Hiff.out | exact ⟨fun _ => (Hfb.out.trans Hiff.out).1 trivial, fun _ => rfl⟩ | simpa using Hfb.out.trans Hiff.out
            · by_cases e : j = i
              · subst e; rw [Hoe.out]; simp
              · exact Hno.out j (by omega)
          case measure => simp [intOf]; omega
      · have hwe := Hwo.out (Or.inr ⟨i, hlt, by rw [Hoe.out]⟩)
        have Hwe := hide hwe
        clear hwe
        go_wp2_with fail
        go_ret2
        exact ⟨by rw [Hwe.out]; rfl, hbr2⟩
      · cases fb
        all_goals
          go_wp2_with (at_builtin; refine wpList_append_lies _ rfl (.tmp 35) (.tmp 37) 27 rfl w.heap.size 9 j0 (.string ByteArray.empty) 1 16 Tryz.underlying27 gi gz0 gz1 gz2 rfl (by decide) _ _ _ rfl (hown2.alloc _) ⟨w2.heap.size, 0, none⟩ 1 1 [.string ot] rfl rfl (one_news _ _ _) (one_oneCell rfl) (by decide) (by unfold maxLen; omega) (by omega) (by simp; omega) (w2.heap.size + 1) (by simp) ?_)
          intro g5 cap5 w5 hown5 hgr5 hat5 hlt5
          have hb5 : Below w.heap.size w w5 := hbr2.grown (grownBy_of_alloc hgr5) hbr2.size (fun k e => (hown2.lt k e).1)
          clear hown2 hbr2 hgr5 hat5
          go_wp2_with fail
          go_roundw
          case rel =>
            refine ⟨i + 1, false, by omega, by go_num, by rw [Hnx.out], rfl, ⟨fun h => (by cases h), fun h => ?_⟩, fun j hj => ?_, by rw [Hnl.out, textV_append]; exact hown5, hb5⟩
            · have := h i (by omega)
              rw [Hoe.out] at this
              cases this
            · by_cases e : j = i
              · subst e; rw [Hoe.out]; simp
              · exact Hno.out j (by omega)
          case measure => simp [intOf]; omega
    · have hii : i = l.length := by omega
      have i5 : ¬ (i : Int) < (l.length : Int) := by omega
      by_cases hl0 : l.length = 0
      · have hwe := Hwo.out (Or.inl (He0.out hl0))
        have Hwe := hide hwe
        have i6 : ((i : Int) == 0) = true := by simp; omega
        obtain ⟨bo, bcap, hlv⟩ : ∃ bo bcap, u6 = .slice bo i bcap := by
          rcases hown.2 with ⟨h1, h2⟩ | ⟨g, cap, cur, h1, _⟩
          · exact ⟨none, 0, by rw [h1, h2]⟩
          · exact ⟨_, cap, h1⟩
        subst hlv
        clear hwe hl0 hii hown
        go_wp2_with fail
        go_ret2
        exact ⟨by rw [Hwe.out]; rfl, hbr⟩
      · have hpn := Hne0.out hl0
        have hsp := HS.out.spec hpn
        have hK := hsp.hK
        have hz := hsp.hz
        have hN2 : s.K * s.z ≤ 320 := Nat.le_trans (Nat.mul_le_mul hK.2 hz.2) (by decide)
        have hN1 : 1 ≤ s.K * s.z := Nat.mul_pos (by omega) (by omega)
        have hmul : (s.K : Int) * (s.z : Int) = ((s.K * s.z : Nat) : Int) := by simp
        have hm1 : 1 ≤ (s.K : Int) * (s.z : Int) := by rw [hmul]; omega
        have hm2 : (s.K : Int) * (s.z : Int) ≤ 320 := by rw [hmul]; omega
        have i6 : ((i : Int) == 0) = false := beq_eq_false_iff_ne.2 (by omega)
        have hsz2 : (wholeTo s i).size ≤ 10000 := by
          have : i * 320 ≤ 20 * 320 := Nat.mul_le_mul_right _ (by omega)
          omega
        have htx := owns_texts hown (objsTo_length s i).symm
        have hgd := fun p (hp : p < i) => objsTo_getD s i p hp
        obtain ⟨bo, bcap, hlv, hbc, hbt⟩ := htx
        rw [objsTo_length] at hlv hbc hbt
        subst hlv
        have HBT := hide hbt
        have HGD := hide hgd
        have Hmul := hide hmul
        have hbd : ∀ n, Below w.heap.size w (wr.drewN n) := fun n => hbr.trans ⟨rfl, rfl, rfl, Nat.le_refl _, fun _ _ => rfl⟩
        clear hbt hgd hmul hl0 hown hsz hdr
        have HT2 := hide hii
        clear hii
        go_upto_region 16 with fail
        go_cut [11] (fun s11 wc => s11 = .int .i64 ((s.K : Int) * (s.z : Int) - 2) ∧ ∃ n, wc = wr.drewN n)
        case first =>
          go_quiet (fail)
          go_wp2_with fail
          go_meet
          case rel => exact ⟨rfl, _, rfl⟩
        case rest =>
        obtain ⟨rfl, nq, rfl⟩ := hcut
        have hbq := hbd nq
        have hcq : ∀ k, k < i → ∃ q o, bo = some ⟨q, o, none⟩ ∧ q < (wr.drewN nq).heap.size ∧ (wr.drewN nq).cell? ⟨q, o + k, none⟩ = some (.string ((objsTo s i).getD k ByteArray.empty)) := fun k hk => HBT.out k hk
        generalize wr.drewN nq = V at *
        have HCQ := hide hcq
        clear hbd hcq c0 c4 c5 HBT
        cases fb with
        | false =>
          have hwe := Hwn.out hpn (fun j hj => Hno.out j (by have := HT2.out; omega)) (fun h => by
            have := Hfb.out.2 (fun j hj => h.1 j (by have := HT2.out; omega))
            cases this)
          have Hwe := hide hwe
          clear hwe
          go_wp2_with fail
          go_ret2
          exact ⟨by rw [Hwe.out]; rfl, hbq⟩
        | true =>
          have hall := Hfb.out.1 rfl
          by_cases h3 : s.K * s.z < 3
          · have hwe := Hwn.out hpn (fun j hj => Hno.out j (by have := HT2.out; omega)) (fun h => by have := h.2.1; omega)
            have Hwe := hide hwe
            have n1 : (s.K : Int) * (s.z : Int) - 2 < 1 := by rw [Hmul.out]; omega
            clear hwe hall
            go_wp2_with fail
            go_ret2
            exact ⟨by rw [Hwe.out]; rfl, hbq⟩
          · obtain ⟨n, hn⟩ : ∃ n, n = s.K * s.z - 2 := ⟨_, rfl⟩
            have hmul2 : (s.K : Int) * (s.z : Int) - 2 = (n : Int) := by rw [Hmul.out]; omega
            have n1 : ¬ (n : Int) < 1 := by omega
            have hnb : 1 ≤ n ∧ n ≤ 318 := by omega
            have hpa := fun W => rparts_any (wholeTo s i) n W (by omega) (by omega)
            have Hn := hide hn
            rw [hmul2]
            clear hmul2 hn h3 hm1 hm2 hN1 hN2
            by_cases hpe : partsN (wholeTo s i) n = i
            · have hpt := fun p (hp : p < i) W => rpart_any (wholeTo s i) n p W (by omega) (by omega) (partT_in (wholeTo s i) n p hnb.1 (by rw [hpe]; exact hp)).1 (by omega)
              rw [hpe] at hpa
              have Hpe := hide hpe
              have Hall := hide hall
              clear hpe hall
              go_wp2_with fail
              refine (hpa _).mono ?_
              rintro e W1 ⟨rfl, e1⟩
              obtain rfl := e1.symm
              clear hpa
              go_wp2_with fail
              go_loopw [73] (fun pv wr => ∃ p : Nat, p ≤ i ∧ pv = .int .i64 (p : Int) ∧ (∀ j, j < p → (objE (s.parts.getD j CS.zero)).1 = partT (wholeTo s i) n j) ∧ Below V.heap.size V wr) (fun pv _ => i - (intOf pv).toNat)
              case atStart => exact ⟨0, Nat.zero_le _, rfl, fun j hj => absurd hj (Nat.not_lt_zero _), Below.refl _ _⟩
              case round =>
                obtain ⟨p, hp, rfl, hcut, hbp⟩ := hrel
                have Hcut := hide hcut
                clear hcut
                have hbe := hbq.trans (hbp.mono hbq.size)
                by_cases hpl : p < i
                · obtain ⟨q, o, rfl, hq, hcc⟩ := HCQ.out p hpl
                  rw [HGD.out p hpl] at hcc
                  have hc2 := (hbp.cell (p := ⟨q, o + p, none⟩) hq).trans hcc
                  have hptp := hpt p hpl
                  have i1 : (0 : Int) ≤ (p : Int) := by omega
                  have i2 : (p : Int) < (i : Int) := by omega
                  clear hcc
                  generalize hoe : (objE (s.parts.getD p CS.zero)).1 = ot at *
                  generalize hpp : partT (wholeTo s i) n p = pp at *
                  by_cases heq : ot = pp
                  · have hbb : (ot.toList == pp.toList) = true := by rw [heq]; simp
                    have Heq := hide heq
                    have Hoe := hide hoe
                    have Hpp := hide hpp
                    clear heq hoe hpp
                    go_wp2_with fail
                    go_quiet (first | (go_at_call 67; refine Calls.quiet_of_same (hptp _)))
                    have hbz : Below V.heap.size V (wr.drewN nq) := hbp.trans ⟨rfl, rfl, rfl, Nat.le_refl _, fun _ _ => rfl⟩
                    go_wp2_with fail
                    go_roundw
                    case rel =>
                      refine ⟨p + 1, by omega, by go_num, fun j hj => ?_, hbz⟩
                      by_cases e : j = p
                      · subst e; rw [Hoe.out, Hpp.out]; exact Heq.out
                      · exact Hcut.out j (by omega)
                    case measure => simp [intOf]; omega
                  · have hbb := beq_bytes heq
                    have hwe := Hwn.out hpn (fun j hj => Hno.out j (by have := HT2.out; omega)) (fun h => heq (by
                      have := h.2.2.2 p (by have := HT2.out; omega)
                      rw [← HT2.out, ← Hn.out] at this
                      rw [← hoe, ← hpp]; exact this))
                    have Hwe := hide hwe
                    clear heq hoe hpp hwe
                    go_wp2_with fail
                    go_quiet (first | (go_at_call 67; refine Calls.quiet_of_same (hptp _)))
                    have hbz : Below w.heap.size w (wr.drewN nq) := hbe.trans ⟨rfl, rfl, rfl, Nat.le_refl _, fun _ _ => rfl⟩
                    go_wp2_with fail
                    go_ret2
                    exact ⟨by rw [Hwe.out]; rfl, hbz⟩
                · have hwe := Hwy.out hpn (fun j hj => Hall.out j (by have := HT2.out; omega)) (by have := Hn.out; omega) (by rw [← HT2.out, ← Hn.out]; exact Hpe.out) (fun j hj => by rw [← HT2.out, ← Hn.out]; exact Hcut.out j (by have := HT2.out; omega))
                  rw [← HT2.out] at hwe
                  have Hwe := hide hwe
                  have i7 : ¬ (p : Int) < (i : Int) := by omega
                  clear hwe
                  generalize wholeTo s i = T at *
                  go_wp2_with fail
                  go_ret2
                  exact ⟨by rw [Hwe.out]; rfl, hbe⟩
            · have hwe := Hwn.out hpn (fun j hj => Hno.out j (by have := HT2.out; omega)) (fun h => hpe (by have := h.2.2.1; rw [← HT2.out, ← Hn.out] at this; exact this))
              have Hwe := hide hwe
              have hb1 : ((partsN (wholeTo s i) n : Int) != (i : Int)) = true := by simp; omega
              clear hwe hall hpe
              generalize partsN (wholeTo s i) n = c at *
              go_wp2_with fail
              refine (hpa _).mono ?_
              rintro e W1 ⟨rfl, e1⟩
              obtain rfl := e1.symm
              clear hpa
              go_wp2_with fail
              go_ret2
              exact ⟨by rw [Hwe.out]; rfl, hbq⟩

end Go.Proofs.YtnjaofkieajnlaaGreat

/- The program's inbox: Whole and Lacks, by what was taken. -/
namespace Go.Proofs.YtnjaofkieajnlaaGreat
open Go.RowKit

theorem wo_kn0 (n : Nat) (f : Fct) : wo kn0 n f = f := by
  induction n with
  | zero => rfl
  | succ n ih =>
    show wo kn0 n (woStep kn0 n f) = f
    have e : woStep kn0 n f = f := by unfold woStep; rw [if_neg (fun h => h.2 rfl)]
    rw [e]
    exact ih

theorem left_kn0 (x : Nat) (p : ByteArray) : left kn0 x p = (x, p) := wo_kn0 20 (x, p)

set_option maxRecDepth 100000 in
set_option maxHeartbeats 4000000 in
theorem lwhole_none (p : Nat) (tt : TypeId) (K M O S z m : Nat) (ks : Nat → Kn) (w : World) (hc : InbAt w p tt 0 K M O S z m ks) :
    Calls Tryz.prog 65 #[.pointer (some ⟨p, 0, none⟩)] w fun e w' => e = .returned (.tuple #[.string ⟨#[]⟩, .int .i64 5]) ∧ w' = w := by
  obtain ⟨c0, _⟩ := hc.head
  have c0' : w.cell? ⟨p, 0, none⟩ = some (.int .i64 0) := c0
  clear hc c0
  go_enter Tryz.func65, Tryz.ntmps65
  go_wp2_with fail
  go_ret2
  exact ⟨rfl, rfl⟩

set_option maxRecDepth 100000 in
set_option maxHeartbeats 8000000 in
theorem lwhole_has (p : Nat) (tt : TypeId) (c K M O S z : Nat) (ks : Nat → Kn) (F : Nat → Nat → ByteArray × Bool) (w : World) (h1 : 1 ≤ c ∧ c ≤ 20) (hK : 1 ≤ K ∧ K ≤ 20) (hM : M ≤ 20) (hz : 1 ≤ z ∧ z ≤ 16) (hkn : ∀ i, i < c → KnOk K z (ks i)) (hc : InbAt w p tt c K M O S z c ks)
    (hF : ∀ i, i < c → ∀ j, j < K → ((F i j).2 = true ↔ (left (ks i) (ofs K M O S j) (zeroB z)).1 = 0)) (hF1 : ∀ i, i < c → ∀ j, j < K → (F i j).1 = (left (ks i) (ofs K M O S j) (zeroB z)).2) (hFs : ∀ i, i < c → ∀ j, (F i j).1.size = z) (PA PJ : Prop) (hPA : PA ↔ ∀ i, i < c → ∀ j, j < K → (F i j).2 = true) (hPJ : PJ ↔ (3 ≤ K * z ∧ joinOk (dataL K F c) (K * z - 2) c)) :
    Calls Tryz.prog 65 #[.pointer (some ⟨p, 0, none⟩)] w fun e w' => ((¬ PA → e = .returned (.tuple #[.string ⟨#[]⟩, .int .i64 5])) ∧ (PA → PJ → e = .returned (.tuple #[.string (objW (dataL K F c) c), .int .i64 0])) ∧ (PA → ¬ PJ → e = .returned (.tuple #[.string ⟨#[]⟩, .int .i64 8]))) ∧ Below w.heap.size w w' := by
  obtain ⟨c0, _⟩ := hc.head
  have hb : ((c : Int) == 0) = false := by simp; omega
  have hda := ldata_any p tt c K M O S z ks F w hK hM hz h1.2 hkn hc hF hF1 hFs
  have hN2 : K * z ≤ 320 := Nat.le_trans (Nat.mul_le_mul hK.2 hz.2) (by decide)
  have hDs : ∀ i, ((dataL K F c).getD i ByteArray.empty).size ≤ 320 := fun i => by
    by_cases hi : i < c
    · unfold dataL
      rw [List.getD_eq_getElem?_getD, List.getElem?_map, List.getElem?_range hi]
      show (joinTo (F i) K).size ≤ 320
      rw [joinTo_size (F i) z (hFs i hi)]
      exact hN2
    · rw [List.getD_eq_getElem?_getD, List.getElem?_eq_none (by rw [dataL_length]; omega)]
      exact Nat.zero_le _
  have hDl := dataL_length K F c
  have hro := fun W => room_any K z W hK.2 hz.2
  have hj1 := fun v W (h3 : 3 ≤ K * z) hT => ljoined_any v (dataL K F c) (K * z - 2) c W (by omega) hDl h1.2 hDs hT
  have hmul : (K : Int) * (z : Int) = ((K * z : Nat) : Int) := by simp
  have Hmul := hide hmul
  clear hmul
  have HF := hide hPA
  have HJ := hide hPJ
  have hcO := hc
  clear hF hF1 hFs hkn hPA hPJ hDs hc
  rw [← HF.out] at hda
  generalize dataL K F c = D at *
  go_enter Tryz.func65, Tryz.ntmps65
  go_wp2_with fail
  refine hda.mono ?_
  rintro e w1 ⟨⟨ha, hn⟩, hb1⟩
  have hc1 := hcO.on (Nat.le_refl _) hb1
  obtain ⟨d0, d1, d2, d3, d4, d5⟩ := hc1.head
  clear hda c0
  by_cases hall : PA
  · obtain ⟨v, rfl, hown⟩ := ha hall
    have hT := owns_texts hown hDl.symm
    have HP := hide hall
    clear ha hn hall hown
    go_upto_region 6 with fail
    go_region_held3 (fun w' => w'.cell? ⟨p, 1, none⟩ = some (.int .i64 (K : Int)) ∧ w'.cell? ⟨p, 5, none⟩ = some (.int .i64 (z : Int)))
      (first | (exact ⟨d1, d5⟩) | go_keep)
      (first
        | (go_at_call 101; refine (hro _).mono ?_; rintro e w2 ⟨rfl, h2⟩; obtain rfl := h2.symm))
    all_goals
      have hTd : TextsAt w1.drew v D := hT
      have hbd : Below w.heap.size w w1.drew := hb1.drew
      (try (rename_i hheld; clear hheld))
      generalize w1.drew = V at *
      clear hT hb1 hc1 d0 d1 d2 d3 d4 d5 hcO
      by_cases h3 : 3 ≤ K * z
      · have hjj := hj1 v V h3 hTd
        have hmul2 : (K : Int) * (z : Int) - 2 = ((K * z - 2 : Nat) : Int) := by rw [Hmul.out]; omega
        rw [← hmul2] at hjj
        have H3 := hide h3
        clear hmul2 hj1 h3
        go_wp2_with fail
        refine hjj.mono ?_
        rintro e w2 ⟨⟨q1, q2⟩, hb2⟩
        have hbw2 := hbd.trans (hb2.mono hbd.size)
        clear hjj hb2 hbd hTd
        by_cases hjo : joinOk D (K * z - 2) c
        · rw [q1 hjo]
          have HPJ := hide (HJ.out.2 ⟨H3.out, hjo⟩)
          clear q1 q2 hjo
          generalize hX : objW D c = X at *
          have HX := hide hX
          clear hX
          go_wp2_with fail
          go_ret2
          exact ⟨⟨fun h => absurd HP.out h, fun _ _ => by rw [← HX.out]; rfl, fun _ h => absurd HPJ.out h⟩, hbw2⟩
        · rw [q2 hjo]
          have HPJ := hide (show ¬ PJ from fun h => hjo (HJ.out.1 h).2)
          clear q1 q2 hjo
          go_wp2_with fail
          go_ret2
          exact ⟨⟨fun h => absurd HP.out h, fun _ h => absurd h HPJ.out, fun _ _ => rfl⟩, hbw2⟩
      · have hjj := ljoined_small v ((K : Int) * (z : Int) - 2) V (by rw [Hmul.out]; omega)
        have HPJ := hide (show ¬ PJ from fun h => h3 (HJ.out.1 h).1)
        clear hj1 h3
        go_wp2_with fail
        refine hjj.mono ?_
        rintro e w2 ⟨rfl, hb2⟩
        have hbw2 := hbd.trans (hb2.mono hbd.size)
        clear hjj hb2 hbd hTd
        go_wp2_with fail
        go_ret2
        exact ⟨⟨fun h => absurd HP.out h, fun _ h => absurd h HPJ.out, fun _ _ => rfl⟩, hbw2⟩
  · rw [hn hall]
    have HP := hide hall
    clear ha hn hall
    go_wp2_with fail
    go_ret2
    exact ⟨⟨fun _ => rfl, fun h => absurd h HP.out, fun h => absurd h HP.out⟩, hb1⟩

/-- What is told of a part's data. -/
def isG (s : IS) (i j : Nat) : ByteArray × Bool := ((left (s.parts.getD i CS.zero).kn (ofs s.K s.M s.O s.S j) (zeroB s.z)).2, decide ((left (s.parts.getD i CS.zero).kn (ofs s.K s.M s.O s.S j) (zeroB s.z)).1 = 0))

theorem ISok.kn {s : IS} (h : ISok s) {i : Nat} (hi : i < s.parts.length) : KnOk s.K s.z (s.parts.getD i CS.zero).kn := by
  obtain ⟨hc, hp⟩ := h.part hi
  cases hk : (s.parts.getD i CS.zero).tk with
  | true =>
    have := (hc.rel hk).ok
    obtain ⟨e1, _, _, _, e5⟩ := hp hk
    rwa [e1, e5] at this
  | false =>
    rw [hc.none hk]
    exact kn0_ok _ _

theorem isG_size {s : IS} (h : ISok s) {i : Nat} (hi : i < s.parts.length) (j : Nat) : (isG s i j).1.size = s.z := (left_ok (h.kn hi) (ofs s.K s.M s.O s.S j) (zeroB s.z) (zeroB_size s.z)).size

theorem isG_taken {s : IS} (h : ISok s) {i : Nat} (hi : i < s.parts.length) (hk : (s.parts.getD i CS.zero).tk = true) : isG s i = csG (s.parts.getD i CS.zero) := by
  obtain ⟨e1, e2, e3, e4, e5⟩ := (h.part hi).2 hk
  funext j
  unfold isG csG
  rw [e1, e2, e3, e4, e5]

theorem open_iff {s : IS} (h : ISok s) {i : Nat} (hi : i < s.parts.length) : (objE (s.parts.getD i CS.zero)).2 = 5 ↔ ¬ ∀ j, j < s.K → (isG s i j).2 = true := by
  have sp := h.spec (fun e => by rw [e] at hi; exact absurd hi (Nat.not_lt_zero _))
  cases hk : (s.parts.getD i CS.zero).tk with
  | true =>
    obtain ⟨e1, _⟩ := (h.part hi).2 hk
    rw [isG_taken h hi hk, ← e1, ← csAll_iff]
    unfold objE
    cases ha : csAll (s.parts.getD i CS.zero) with
    | true =>
      rw [if_pos ⟨hk, rfl⟩]
      split <;> simp
    | false => rw [if_neg (by simp)]; simp
  | false =>
    have hz := (h.part hi).1.none hk
    unfold objE
    rw [if_neg (by rw [hk]; simp)]
    refine ⟨fun _ hall => ?_, fun _ => rfl⟩
    have := hall 0 (by have := sp.hK; omega)
    unfold isG at this
    rw [hz] at this
    have h2 : (left kn0 (ofs s.K s.M s.O s.S 0) (zeroB s.z)).1 = 0 := of_decide_eq_true this
    rw [left_kn0, ofs_data _ _ _ _ _ (by have := sp.hK; omega)] at h2
    exact absurd h2 (by show ¬ 2 ^ 0 = 0; decide)

theorem full_obj {s : IS} (h : ISok s) {i : Nat} (hi : i < s.parts.length) (hall : ∀ j, j < s.K → (isG s i j).2 = true) : ((objE (s.parts.getD i CS.zero)).2 = 0 ↔ objOk (joinTo (isG s i) s.K) = true) ∧ (objOk (joinTo (isG s i) s.K) = true → (objE (s.parts.getD i CS.zero)).1 = objText (joinTo (isG s i) s.K)) := by
  have hk : (s.parts.getD i CS.zero).tk = true := by
    cases hk : (s.parts.getD i CS.zero).tk with
    | true => rfl
    | false =>
      have h5 : (objE (s.parts.getD i CS.zero)).2 = 5 := by unfold objE; rw [if_neg (by rw [hk]; simp)]
      exact absurd hall ((open_iff h hi).1 h5)
  obtain ⟨e1, _⟩ := (h.part hi).2 hk
  have hg := isG_taken h hi hk
  have hca : csAll (s.parts.getD i CS.zero) = true := by
    rw [csAll_iff, e1, ← hg]; exact hall
  have ho : objE (s.parts.getD i CS.zero) = if objOk (joinTo (isG s i) s.K) = true then (objText (joinTo (isG s i) s.K), 0) else (⟨#[]⟩, 8) := by
    unfold objE
    rw [if_pos ⟨hk, hca⟩, hg, e1]
  rw [ho]
  cases hj : objOk (joinTo (isG s i) s.K) with
  | true => rw [if_pos rfl]; exact ⟨⟨fun _ => rfl, fun _ => rfl⟩, fun _ => rfl⟩
  | false => rw [if_neg (by simp)]; exact ⟨⟨fun e => (by cases e), fun e => (by cases e)⟩, fun e => (by cases e)⟩

theorem dataL_getD (K : Nat) (F : Nat → Nat → ByteArray × Bool) (n i : Nat) (h : i < n) : (dataL K F n).getD i ByteArray.empty = joinTo (F i) K := by
  unfold dataL
  rw [List.getD_eq_getElem?_getD, List.getElem?_map, List.getElem?_range h]; rfl

theorem whole_same {s : IS} (hok : ∀ i, i < s.parts.length → (objE (s.parts.getD i CS.zero)).1 = objText (joinTo (isG s i) s.K)) (n : Nat) (hn : n ≤ s.parts.length) : wholeTo s n = objW (dataL s.K (isG s) s.parts.length) n := by
  induction n with
  | zero => rfl
  | succ n ih =>
    show wholeTo s n ++ _ = objW _ n ++ _
    rw [ih (by omega), hok n (by omega), dataL_getD _ _ _ _ (by omega)]

theorem list_eq_range {α : Type} {n m : Nat} {f g : Nat → α} : (List.range n).map f = (List.range m).map g ↔ (n = m ∧ ∀ i, i < m → f i = g i) := by
  constructor
  · intro h
    have hl : n = m := by have := congrArg List.length h; simpa using this
    subst hl
    refine ⟨rfl, fun i hi => ?_⟩
    have := congrArg (fun l => l[i]?) h
    simpa [List.getElem?_range hi] using this
  · rintro ⟨rfl, h⟩
    exact List.map_congr_left (fun i hi => h i (List.mem_range.1 hi))

set_option maxHeartbeats 2000000 in
theorem owhole_any (p : Nat) (tt : TypeId) (s : IS) (w : World) (hc : ProgInb w p tt s) (hs : ISok s) :
    Calls Tryz.prog 65 #[.pointer (some ⟨p, 0, none⟩)] w fun e w' => e = .returned (.tuple #[.string (wholeE s).1, .int .i64 (wholeE s).2]) ∧ Below w.heap.size w w' := by
  by_cases hn : s.parts = []
  · rw [whole_open (Or.inl hn)]
    have hz := hs.none hn
    subst hz
    exact (lwhole_none p tt _ _ _ _ _ _ _ w hc).mono fun e w' ⟨h1, h2⟩ => ⟨h1, by rw [h2]; exact Below.refl _ _⟩
  · have sp := hs.spec hn
    have hlen : 1 ≤ s.parts.length := by
      rcases Nat.eq_zero_or_pos s.parts.length with h | h
      · exact absurd (List.eq_nil_of_length_eq_zero h) hn
      · exact h
    refine (lwhole_has p tt s.parts.length s.K s.M s.O s.S s.z _ (isG s) w ⟨hlen, hs.len⟩ sp.hK sp.hM.2 sp.hz (fun i hi => hs.kn hi) hc (fun i _ j _ => decide_eq_true_iff) (fun i _ j _ => rfl) (fun i hi j => isG_size hs hi j) (∀ i, i < s.parts.length → ∀ j, j < s.K → (isG s i j).2 = true) (3 ≤ s.K * s.z ∧ joinOk (dataL s.K (isG s) s.parts.length) (s.K * s.z - 2) s.parts.length) Iff.rfl Iff.rfl).mono fun e w' ⟨⟨h5, h0, h8⟩, hb⟩ => ⟨?_, hb⟩
    by_cases hall : ∀ i, i < s.parts.length → ∀ j, j < s.K → (isG s i j).2 = true
    · have hob := fun i hi => full_obj hs (i := i) hi (hall i hi)
      have hne5 : ∀ i, i < s.parts.length → (objE (s.parts.getD i CS.zero)).2 ≠ 5 := fun i hi e => ((open_iff hs hi).1 e) (hall i hi)
      by_cases hform : ∀ i, i < s.parts.length → objOk (joinTo (isG s i) s.K) = true
      · have hok1 := fun i hi => (hob i hi).2 (hform i hi)
        have hW := whole_same hok1 s.parts.length (Nat.le_refl _)
        have hjo : joinOk (dataL s.K (isG s) s.parts.length) (s.K * s.z - 2) s.parts.length ↔ (partsN (wholeTo s s.parts.length) (s.K * s.z - 2) = s.parts.length ∧ ∀ q, q < s.parts.length → (objE (s.parts.getD q CS.zero)).1 = partT (wholeTo s s.parts.length) (s.K * s.z - 2) q) := by
          unfold joinOk cutL objL
          rw [← hW, list_eq_range]
          constructor
          · rintro ⟨_, e1, e2⟩
            exact ⟨e1, fun q hq => by rw [e2 q hq, dataL_getD _ _ _ _ hq, hok1 q hq]⟩
          · rintro ⟨e1, e2⟩
            exact ⟨fun i hi => by rw [dataL_getD _ _ _ _ hi]; exact hform i hi, e1, fun q hq => by rw [dataL_getD _ _ _ _ hq, ← e2 q hq, hok1 q hq]⟩
        by_cases hJ : 3 ≤ s.K * s.z ∧ joinOk (dataL s.K (isG s) s.parts.length) (s.K * s.z - 2) s.parts.length
        · rw [h0 hall hJ, whole_yes hn (fun i hi => ((hob i hi).1).2 (hform i hi)) hJ.1 (hjo.1 hJ.2).1 (hjo.1 hJ.2).2, hW]
        · rw [h8 hall hJ, whole_no hn hne5 (fun ⟨_, a, b, d⟩ => hJ ⟨a, hjo.2 ⟨b, d⟩⟩)]
      · rw [h8 hall (fun hJ => hform (fun i hi => by have := hJ.2.1 i hi; rwa [dataL_getD _ _ _ _ hi] at this)), whole_no hn hne5 (fun hh => hform (fun i hi => ((hob i hi).1).1 (hh.1 i hi)))]
    · rw [h5 hall]
      have hex : ∃ i, i < s.parts.length ∧ (objE (s.parts.getD i CS.zero)).2 = 5 := Classical.byContradiction (fun hno => hall (fun i hi => Classical.byContradiction (fun hx => hno ⟨i, hi, (open_iff hs hi).2 hx⟩)))
      rw [whole_open (Or.inr hex)]

theorem lack_kn {s : IS} (h : ISok s) {i : Nat} (hi : i < s.parts.length) : lackC s.K (s.parts.getD i CS.zero) = openK (s.parts.getD i CS.zero).kn s.K := by
  unfold lackC
  cases hk : (s.parts.getD i CS.zero).tk with
  | true => rw [if_pos rfl, ((h.part hi).2 hk).1]
  | false => rw [if_neg (by simp), (h.part hi).1.none hk]; exact (openK_kn0 s.K).symm

theorem lacks_same {s : IS} (h : ISok s) (n : Nat) (hn : n ≤ s.parts.length) : lackTo s n = lacksTo s.K (fun j => (s.parts.getD j CS.zero).kn) n := by
  induction n with
  | zero => rfl
  | succ n ih =>
    show lackTo s n + _ = lacksTo s.K _ n + _
    rw [ih (by omega), lack_kn h (by omega)]

theorem olacks_any (p : Nat) (tt : TypeId) (s : IS) (w : World) (hc : ProgInb w p tt s) (hs : ISok s) :
    Calls Tryz.prog 64 #[.pointer (some ⟨p, 0, none⟩)] w fun e w' => e = .returned (.int .i64 (lackE s)) ∧ w' = w := by
  unfold lackE
  by_cases hn : s.parts = []
  · rw [if_pos hn]
    have hz := hs.none hn
    subst hz
    exact llacks_none p tt _ _ _ _ _ _ _ w hc
  · rw [if_neg hn, lacks_same hs s.parts.length (Nat.le_refl _)]
    have hlen : 1 ≤ s.parts.length := by
      rcases Nat.eq_zero_or_pos s.parts.length with h | h
      · exact absurd (List.eq_nil_of_length_eq_zero h) hn
      · exact h
    exact llacks_has p tt s.parts.length s.K s.M s.O s.S s.z _ w ⟨hlen, hs.len⟩ (hs.spec hn).hK.2 hc

end Go.Proofs.YtnjaofkieajnlaaGreat
