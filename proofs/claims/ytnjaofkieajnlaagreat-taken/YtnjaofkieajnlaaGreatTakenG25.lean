/- Texts of the proof, part 26. -/
import Derived.Test.YtnjaofkieajnlaaGreatTakenG11
import Derived.Test.YtnjaofkieajnlaaGreatTakenG18
import Derived.Test.YtnjaofkieajnlaaGreatTakenG24
import Derived.Test.YtnjaofkieajnlaaGreatTakenG8

/- The document's own inbox: Take of the first sheet, and Take whole. -/
namespace Go.Proofs.YtnjaofkieajnlaaGreat
open Go.RowKit

set_option maxRecDepth 100000 in
set_option maxHeartbeats 8000000 in
theorem rtake_first (x : Nat) (hv : Value) (l : List PD) (s : IS) (t : ByteArray) (w : World) (hd : DocInbox w x hv l s) (h : headOk t) (hp : PacketOk (tQ t)) (hnil : s.parts = []) :
    Calls Tryz.prog 39 #[.pointer (some ⟨x, 0, none⟩), .string t] w fun e w' => e = .returned (.int .i64 (takeE s t)) ∧ ∃ hv' l', DocInbox w' x hv' l' (takeS s t) ∧ Chg (fpI x hv l s) w w' ∧ (∀ k, fpI x hv' l' (takeS s t) k → fpI x hv l s k ∨ w.heap.size ≤ k) := by
  have hbd : ∀ n, Below w.heap.size w (w.drewN n) := fun n => ⟨rfl, rfl, rfl, Nat.le_refl _, fun _ _ => rfl⟩
  have hrd := rread_ok (tQ t) hp
  have hhv := hd.nil hnil
  have hl : l = [] := List.eq_nil_of_length_eq_zero (by rw [hd.parts.len, hnil]; rfl)
  subst hhv hl
  have hpo : partsOf s t = List.replicate (tN t) CS.zero := by unfold partsOf; rw [if_pos hnil]
  have he := takeE_main h hp (Or.inl hnil)
  have hS : takeS s t = if takeE s t = 0 then ⟨rK (tQ t), rM (tQ t), rO (tQ t), rS (tQ t), rZ (tQ t), (partsOf s t).set (tP t) (hearS ((partsOf s t).getD (tP t) CS.zero) (tQ t))⟩ else s := rfl
  rw [hpo, replicate_getD] at he hS
  obtain ⟨h4, e0, n1, n2, n3⟩ := h
  have hhr := fun (W : World) (r : Nat) (hdc : DocCat W r 0 (.slice none 0 0) (.slice none 0 0) CS.zero) => rhear_any r 0 (.slice none 0 0) (.slice none 0 0) CS.zero (tQ t) W hdc CSok.new
  have hS2 : hearE CS.zero (tQ t) = 0 → takeS s t = ⟨rK (tQ t), rM (tQ t), rO (tQ t), rS (tQ t), rZ (tQ t), (List.replicate (tN t) CS.zero).set (tP t) (hearS CS.zero (tQ t))⟩ := fun e => by rw [hS, he, if_pos e]
  have hS3 : hearE CS.zero (tQ t) ≠ 0 → takeS s t = s := fun e => by rw [hS, he, if_neg e]
  rw [he]
  unfold ReadSays at hrd
  have htq : tQ t = t.extract 3 t.size := rfl
  rw [htq] at hrd hhr hS2 hS3 ⊢
  obtain ⟨ee, hee⟩ : ∃ ee, ee = hearE CS.zero (t.extract 3 t.size) := ⟨_, rfl⟩
  obtain ⟨c2, hc2⟩ : ∃ c2, c2 = hearS CS.zero (t.extract 3 t.size) := ⟨_, rfl⟩
  rw [← hee] at hhr hS2 hS3 ⊢
  rw [← hc2] at hhr hS2
  generalize rK (t.extract 3 t.size) = K at *
  generalize rM (t.extract 3 t.size) = M at *
  generalize rO (t.extract 3 t.size) = O at *
  generalize rS (t.extract 3 t.size) = S at *
  generalize rZ (t.extract 3 t.size) = z at *
  generalize rI (t.extract 3 t.size) = i at *
  generalize rQ (t.extract 3 t.size) = q at *
  have HS2 := hide hS2
  have HS3 := hide hS3
  have g0 := byteAt_get t 0 (by omega)
  have g1 := byteAt_get t 1 (by omega)
  have g2 := byteAt_get t 2 (by omega)
  have b1 := (byteAt t 1).toNat_lt
  have b2 := (byteAt t 2).toNat_lt
  have i0 : (0 : Int) < (t.size : Int) := by omega
  have i1 : (1 : Int) < (t.size : Int) := by omega
  have i2 : (2 : Int) < (t.size : Int) := by omega
  have i3 : (3 : Int) ≤ (t.size : Int) := by omega
  have l4 : ¬ (t.size : Int) < 4 := by omega
  have h1 : (((byteAt t 0).toNat : Int) != 83) = false := by rw [e0]; rfl
  have htn : (byteAt t 2).toNat = tN t := rfl
  have htp : (byteAt t 1).toNat = tP t := rfl
  have h2 : ¬ ((byteAt t 2).toNat : Int) < 1 := by omega
  have h3 : ¬ (20 : Int) < ((byteAt t 2).toNat : Int) := by omega
  have h5 : ¬ ((byteAt t 2).toNat : Int) ≤ ((byteAt t 1).toNat : Int) := by omega
  have HD := hide hd
  have HN := hide (And.intro htn (And.intro htp (And.intro n1 (And.intro n2 n3))))
  have Hnil := hide hnil
  obtain ⟨j0, gi, gz0, gz1, gz2⟩ := info_parts Tryz.infoPtr
  clear hp e0 n1 n2 n3 htq hd he hS hS2 hS3 hee hc2 hpo hnil htn htp
  go_enter Tryz.func39, Tryz.ntmps39
  go_upto_region 1 with fail
  go_cut [37] (fun s37 wc => s37 = .bool false ∧ ∃ n, wc = w.drewN n)
  case first =>
    go_quiet (fail)
    go_wp2_with fail
    go_meet
    case rel => exact ⟨rfl, _, rfl⟩
  case rest =>
  obtain ⟨rfl, nq, rfl⟩ := hcut
  have hbq := hbd nq
  generalize w.drewN nq = V at *
  clear hbd g0 h1 h2 h3 h5
  go_wp2_with fail
  refine (hrd _).mono ?_
  rintro e w1 ⟨rfl, hb1⟩
  have hbw1 := hbq.trans (hb1.mono hbq.size)
  clear hrd hb1 hbq
  have hbA : Below w.heap.size w (w1.alloc (specB K M O S)) := hbw1.alloc hbw1.size _
  have hsA : (w1.alloc (specB K M O S)).heap[w1.heap.size]? = some (specB K M O S) := heap_alloc_new w1 _
  have hdA := HD.out.on hbA
  obtain ⟨d0, d1, d2, d3, d4, d5⟩ := inb_cells hdA.box
  have hwb := hbw1.size
  generalize hln2 : (byteAt t 2).toNat = ln at *
  go_upto_region 8 with fail
  have Hln2 := hide hln2
  clear hln2 g2
  generalize w1.alloc (specB K M O S) = W at *
  go_cut [80] (fun s80 wc => s80 = .bool false ∧ ∃ n, wc = W.drewN n)
  case first =>
    go_quiet (fail)
    go_wp2_with fail
    go_meet
    case rel => exact ⟨rfl, _, rfl⟩
  case rest =>
  obtain ⟨rfl, nq2, rfl⟩ := hcut
  have hdB : DocInbox (W.drewN nq2) x (.slice none 0 0) [] s := hdA.blocks (fun k _ => rfl)
  have hbB : Below w.heap.size w (W.drewN nq2) := hbA.trans ⟨rfl, rfl, rfl, Nat.le_refl _, fun _ _ => rfl⟩
  have hsB : (W.drewN nq2).heap[w1.heap.size]? = some (specB K M O S) := hsA
  generalize W.drewN nq2 = U at *
  clear d0 d1 d2 d3 d4 d5 hdA hbA hsA
  have hl20 : ln ≤ 20 := by have := HN.out.2.2.2.1; have := HN.out.1; omega
  go_wp2_with fail
  go_loopw [11] (fun hv11 wr => ∃ (m : Nat) (lm : List PD), m ≤ ln ∧ lm.length = m ∧ (∃ ao cap, hv11 = .slice ao m cap) ∧ PartsAt wr hv11 lm (List.replicate m CS.zero) ∧ (∀ j, j < m → (lm.getD j PD.no).b = 0 ∧ (lm.getD j PD.no).av = .slice none 0 0 ∧ (lm.getD j PD.no).pv = .slice none 0 0) ∧ (∀ k, fpP hv11 lm (List.replicate m CS.zero) k → U.heap.size ≤ k) ∧ Below U.heap.size U wr) (fun a _ => ln - lenP a)
  case atStart => exact ⟨0, [], Nat.zero_le _, rfl, ⟨none, 0, rfl⟩, PartsAt.empty _, fun j hj => absurd hj (Nat.not_lt_zero _), fun k hk => by
      rcases hk with hk | ⟨j, hj, _⟩
      · simp [Value.ownBlock] at hk
      · simp at hj, Below.refl _ _⟩
  case round =>
    obtain ⟨m, lm, hm, hlm, ⟨ao, cap, rfl⟩, hpa, hpd, hpn, hbr⟩ := hrel
    by_cases hlt : m < ln
    · have i6 : (m : Int) < (ln : Int) := by omega
      have hown := hpa.own
      rw [hlm] at hown
      have hbR := (Below.refl wr.heap.size wr).alloc (Nat.le_refl _) (catB none)
      have hpaR := hpa.on hbR
      have hdoc : DocCat (wr.alloc (catB none)) wr.heap.size 0 (.slice none 0 0) (.slice none 0 0) CS.zero := ⟨fun _ => heap_alloc_new wr _, fun h => (by cases h), fun h => (by cases h), fun h => (by cases h)⟩
      have hszU := hbr.size
      have hfin : ∀ g cap' w3, w3.ownsRow 0 44 1 (.slice (some ⟨g, 0, none⟩) (m + 1) cap') (m + 1) (ptrsV lm ++ [.pointer (some ⟨wr.heap.size, 0, none⟩)]) → (wr.alloc (catB none)).grownBy w3 (Value.slice ao m cap).ownBlock → ((Value.slice ao m cap).ownBlock = some g ∨ g = wr.heap.size + 1 + 1) →
          ∃ (m' : Nat) (lm' : List PD), m' ≤ ln ∧ lm'.length = m' ∧ (∃ ao' cap'', (Value.slice (some ⟨g, 0, none⟩) (m + 1) cap') = .slice ao' m' cap'') ∧ PartsAt w3 (.slice (some ⟨g, 0, none⟩) (m + 1) cap') lm' (List.replicate m' CS.zero) ∧ (∀ j, j < m' → (lm'.getD j PD.no).b = 0 ∧ (lm'.getD j PD.no).av = .slice none 0 0 ∧ (lm'.getD j PD.no).pv = .slice none 0 0) ∧ (∀ k, fpP (.slice (some ⟨g, 0, none⟩) (m + 1) cap') lm' (List.replicate m' CS.zero) k → U.heap.size ≤ k) ∧ Below U.heap.size U w3 := fun g cap' w3 ho hgr ha => by
        have hszR : (wr.alloc (catB none)).heap.size = wr.heap.size + 1 := by simp
        have hfpd : ∀ k, (PD.mk wr.heap.size 0 (.slice none 0 0) (.slice none 0 0)).fp CS.zero k → k = wr.heap.size := fun k hk => by
          rcases hk with hk | ⟨hk, _⟩
          · exact hk
          · cases hk
        obtain ⟨u1, u2⟩ := hpaR.snoc (d := ⟨wr.heap.size, 0, .slice none 0 0, .slice none 0 0⟩) (c := CS.zero) (g := g) (cap := cap') hdoc (fun k hk hk2 => by
          have := hfpd k hk
          have := hpa.lt hk2
          omega) hgr (by rw [ptrsV_append]; exact ho) (by rw [hlm]) (by rcases ha with e | e; exact Or.inl e; right; rw [hszR]; omega)
        have hrep : List.replicate m CS.zero ++ [CS.zero] = List.replicate (m + 1) CS.zero := by rw [List.replicate_succ']
        rw [hrep] at u1 u2
        refine ⟨m + 1, lm ++ [⟨wr.heap.size, 0, .slice none 0 0, .slice none 0 0⟩], by omega, by rw [List.length_append, hlm]; rfl, ⟨_, _, rfl⟩, u1, fun j hj => ?_, fun k hk => ?_, ?_⟩
        · rw [getD_snocA]
          by_cases e : j < lm.length
          · rw [if_pos e]; exact hpd j (by omega)
          · rw [if_neg e, if_pos (by omega)]; exact ⟨rfl, rfl, rfl⟩
        · rcases u2 k hk with h | h | h
          · exact hpn k h
          · have := hfpd k h; omega
          · rw [hszR] at h; omega
        · have hb1 : Below U.heap.size U (wr.alloc (catB none)) := hbr.alloc hbr.size _
          exact hb1.grown hgr hb1.size (fun k e => hpn k (Or.inl e))
      have HF := hide hfin
      clear hfin hdoc hpaR hbR hpa hpd
      go_wp2_with (at_builtin; refine wpList_append_lies _ rfl (.tmp 85) (.tmp 88) 53 rfl 0 44 j0 (.pointer none) 1 8 Tryz.underlying53 gi gz0 gz1 gz2 rfl (by decide) _ _ _ rfl ((hown.alloc _).alloc _) ⟨wr.heap.size + 1, 0, none⟩ 1 1 [.pointer (some ⟨wr.heap.size, 0, none⟩)] rfl rfl (World.news_of_block (cs := #[_]) (heap_alloc2p wr _ _)) (one_oneCell rfl) (by decide) (by unfold maxLen; omega) (by omega) (Nat.zero_le _) (wr.heap.size + 1 + 1) (by simp) ?_)
      intro g5 cap5 w5 hown5 hgr5 hat5 hlt5
      have hend := HF.out g5 cap5 w5 hown5 (grownBy_of_alloc hgr5) hat5
      clear HF hown hown5 hgr5 hat5 hpn hbr
      go_wp2_with fail
      go_roundw
      case rel => exact hend
      case measure => simp [lenP]; omega
    · have i5 : ¬ (m : Int) < (ln : Int) := by omega
      have htn : tN t = m := by have := HN.out.1; omega
      have hpt : tP t < lm.length := by have := HN.out.2.2.2.2; omega
      obtain ⟨g, cap', hve, hg, cp⟩ := hpa.cell hpt
      simp only [Value.slice.injEq] at hve
      obtain ⟨rfl, hml, rfl⟩ := hve
      clear hml
      obtain ⟨e1, e2, e3⟩ := hpd (tP t) (by omega)
      have hdc0 := hpa.each (tP t) hpt
      have hfp0 : (lm.getD (tP t) PD.no).fp ((List.replicate m CS.zero).getD (tP t) CS.zero) = fpD (lm.getD (tP t) PD.no).r 0 (.slice none 0 0) (.slice none 0 0) CS.zero := by
        unfold PD.fp
        rw [replicate_getD, e1, e2, e3]
      rw [replicate_getD, e1, e2, e3] at hdc0
      have cp2 : wr.cell? ⟨g, (byteAt t 1).toNat, none⟩ = some (.pointer (some ⟨(lm.getD (tP t) PD.no).r, 0, none⟩)) := by rw [HN.out.2.1]; exact cp
      have i6 : ((byteAt t 1).toNat : Int) < (m : Int) := by have := HN.out.2.1; omega
      have i7 : (0 : Int) ≤ ((byteAt t 1).toNat : Int) := by omega
      have hdcD : DocCat wr.drew (lm.getD (tP t) PD.no).r 0 (.slice none 0 0) (.slice none 0 0) CS.zero := hdc0.blocks (fun k _ => rfl)
      have hgn := hpa.list (k := g) rfl hpt
      rw [hfp0] at hgn
      have hfl : ∀ k, fpD (lm.getD (tP t) PD.no).r 0 (.slice none 0 0) (.slice none 0 0) CS.zero k → U.heap.size ≤ k := fun k hk => hpn k (Or.inr ⟨tP t, hpt, by rw [hfp0]; exact hk⟩)
      have hsl : w1.heap.size < U.heap.size := (Array.getElem?_eq_some_iff.1 hsB).1
      have hUw := hbB.size
      have hUr := hbr.size
      have Htn := hide (And.intro htn hpt)
      have Hfp := hide hfp0
      clear cp e1 e2 e3 hfp0 htn hpt hlt hlm hpd
      go_upto_region 12 with fail
      go_region_held3 (fun w' => w'.cell? ⟨g, (byteAt t 1).toNat, none⟩ = some (.pointer (some ⟨(lm.getD (tP t) PD.no).r, 0, none⟩)))
        (first | (exact cp2) | (exact j1) | go_keep)
        (first
          | (go_at_call 33; refine (hhr _ (lm.getD (tP t) PD.no).r (by first | exact hdcD | exact hdc0)).mono ?_; rintro e w2 ⟨rfl, b', av', pv', hdc2, hcg2, hnew2⟩; have j1 := (hcg2.cell (a := ⟨g, (byteAt t 1).toNat, none⟩) hg hgn).trans cp2))
      all_goals
        have hcg3 : Chg ((lm.getD (tP t) PD.no).fp ((List.replicate m CS.zero).getD (tP t) CS.zero)) wr w2 := by rw [Hfp.out]; exact ⟨hcg2.os, hcg2.tape, hcg2.output, hcg2.size, hcg2.block⟩
        obtain ⟨u1, u2, u3⟩ := hpa.update Htn.out.2 (d := ⟨(lm.getD (tP t) PD.no).r, b', av', pv'⟩) (c := c2) hcg3 hdc2 rfl (fun k hk => by rw [Hfp.out]; exact hnew2 k hk)
        have hbw : Below w.heap.size w wr := hbB.trans (hbr.mono hUw)
        have hbw2 : Below w.heap.size w w2 := chg_under hbw hcg3 (fun k hk => by rw [Hfp.out] at hk; have := hfl k hk; omega)
        have hs2 : w2.heap[w1.heap.size]? = some (specB K M O S) := by
          rw [hcg3.block _ (by omega) (fun hk => by rw [Hfp.out] at hk; have := hfl _ hk; omega), hbr.block _ hsl]; exact hsB
        have hx2 := block_on HD.out.box hbw2
        have hxw := HD.out.xlt
        have hnw : ∀ k, fpP (.slice (some ⟨g, 0, none⟩) m cap) (lm.set (tP t) ⟨(lm.getD (tP t) PD.no).r, b', av', pv'⟩) ((List.replicate m CS.zero).set (tP t) c2) k → w.heap.size ≤ k := fun k hk => by
          rcases u3 k hk with h | h
          · have := hpn k h; omega
          · omega
        have hxn : ¬ fpP (.slice (some ⟨g, 0, none⟩) m cap) (lm.set (tP t) ⟨(lm.getD (tP t) PD.no).r, b', av', pv'⟩) ((List.replicate m CS.zero).set (tP t) c2) x := fun hk => by
          have := hnw x hk
          omega
        clear hhr hdc0 hdcD hdc2 hcg2 hcg3 hnew2 j1 cp2 hgn hbw u2 u3
        by_cases hee : ee = 0
        · have hT := HS2.out hee
          have hfx := inb_store hx2 (.int .i64 (K : Int)) (.int .i64 (M : Int)) (.int .i64 (O : Int)) (.int .i64 (S : Int)) (.int .i64 (z : Int)) (.slice (some ⟨g, 0, none⟩) m cap)
          have hff := set6_far w2 x (.int .i64 (K : Int)) (.int .i64 (M : Int)) (.int .i64 (O : Int)) (.int .i64 (S : Int)) (.int .i64 (z : Int)) (.slice (some ⟨g, 0, none⟩) m cap)
          have hend : ∃ hv' l', DocInbox ((((((w2.setCell ⟨x, 0, none⟩ (.int .i64 (K : Int))).setCell ⟨x, 1, none⟩ (.int .i64 (M : Int))).setCell ⟨x, 2, none⟩ (.int .i64 (O : Int))).setCell ⟨x, 3, none⟩ (.int .i64 (S : Int))).setCell ⟨x, 4, none⟩ (.int .i64 (z : Int))).setCell ⟨x, 5, none⟩ (.slice (some ⟨g, 0, none⟩) m cap)) x hv' l' (takeS s t) ∧ Chg (fpI x (.slice none 0 0) [] s) w ((((((w2.setCell ⟨x, 0, none⟩ (.int .i64 (K : Int))).setCell ⟨x, 1, none⟩ (.int .i64 (M : Int))).setCell ⟨x, 2, none⟩ (.int .i64 (O : Int))).setCell ⟨x, 3, none⟩ (.int .i64 (S : Int))).setCell ⟨x, 4, none⟩ (.int .i64 (z : Int))).setCell ⟨x, 5, none⟩ (.slice (some ⟨g, 0, none⟩) m cap)) ∧ (∀ k, fpI x hv' l' (takeS s t) k → fpI x (.slice none 0 0) [] s k ∨ w.heap.size ≤ k) := by
            rw [hT, Htn.out.1]
            refine ⟨.slice (some ⟨g, 0, none⟩) m cap, lm.set (tP t) ⟨(lm.getD (tP t) PD.no).r, b', av', pv'⟩, ⟨hfx, u1.blocks (fun k hk => hff k (fun e => hxn (e ▸ hk))), fun e => ?_⟩, ?_, fun k hk => ?_⟩
            · have hq := congrArg List.length (show (List.replicate m CS.zero).set (tP t) c2 = [] from e)
              rw [List.length_set, List.length_replicate] at hq
              have hq2 : m = 0 := hq
              have := HN.out.2.2.1
              have := Htn.out.1
              omega
            · exact ((((((Chg.of_below hbw2 (fpI x (.slice none 0 0) [] s)).setCell (a := ⟨x, 0, none⟩) (Or.inr (Or.inl rfl)) _).setCell (a := ⟨x, 1, none⟩) (Or.inr (Or.inl rfl)) _).setCell (a := ⟨x, 2, none⟩) (Or.inr (Or.inl rfl)) _).setCell (a := ⟨x, 3, none⟩) (Or.inr (Or.inl rfl)) _).setCell (a := ⟨x, 4, none⟩) (Or.inr (Or.inl rfl)) _).setCell (a := ⟨x, 5, none⟩) (Or.inr (Or.inl rfl)) _
            · rcases hk with hk | hk
              · exact Or.inl (Or.inl hk)
              · exact Or.inr (hnw k hk)
          have Hend := hide hend
          obtain ⟨d0, d1, d2, d3, d4, d5⟩ := inb_cells hx2
          obtain ⟨s0, s1, s2, s3⟩ := spec_cells hs2
          have f0 := found_frozen hx2 0
          have f1 := found_frozen hx2 1
          have f2 := found_frozen hx2 2
          have f3 := found_frozen hx2 3
          have f4 := found_frozen hx2 4
          have f5 := found_frozen hx2 5
          have hxs : w1.heap.size ≠ x := by omega
          subst hee
          clear hend hfx hff hT HS2 HS3 u1 hxn hnw hpa hpn hfl hbr hbB hdB hsB hs2 hx2 hbw2
          go_wp2_with fail
          go_ret
          exact ⟨rfl, Hend.out⟩
        · have hT := HS3.out hee
          have heb : (ee == 0) = false := beq_eq_false_iff_ne.2 hee
          have hend : ∃ hv' l', DocInbox w2 x hv' l' (takeS s t) ∧ Chg (fpI x (.slice none 0 0) [] s) w w2 ∧ (∀ k, fpI x hv' l' (takeS s t) k → fpI x (.slice none 0 0) [] s k ∨ w.heap.size ≤ k) := by
            rw [hT]
            exact ⟨.slice none 0 0, [], HD.out.on hbw2, Chg.of_below hbw2 _, fun k hk => Or.inl hk⟩
          have Hend := hide hend
          clear hend hT HS2 HS3 u1 hxn hnw hee hpa hpn hfl hbr
          go_wp2_with fail
          go_ret
          exact ⟨rfl, Hend.out⟩

/-- What Take answers, whatever the text. -/
theorem rtake_any (x : Nat) (hv : Value) (l : List PD) (s : IS) (t : ByteArray) (w : World) (hd : DocInbox w x hv l s) (hs : ISok s) :
    Calls Tryz.prog 39 #[.pointer (some ⟨x, 0, none⟩), .string t] w fun e w' => e = .returned (.int .i64 (takeE s t)) ∧ ∃ hv' l', DocInbox w' x hv' l' (takeS s t) ∧ Chg (fpI x hv l s) w w' ∧ (∀ k, fpI x hv' l' (takeS s t) k → fpI x hv l s k ∨ w.heap.size ≤ k) := by
  have hkeep : ∀ n, takeE s t = n → n ≠ 0 → ∀ w', Below w.heap.size w w' → ∃ hv' l', DocInbox w' x hv' l' (takeS s t) ∧ Chg (fpI x hv l s) w w' ∧ (∀ k, fpI x hv' l' (takeS s t) k → fpI x hv l s k ∨ w.heap.size ≤ k) := fun n hn h0 w' hb => by
    have hS : takeS s t = s := by unfold takeS; rw [hn, if_neg h0]
    rw [hS]
    exact ⟨hv, l, hd.on hb, Chg.of_below hb _, fun k hk => Or.inl hk⟩
  by_cases hh : headOk t
  · by_cases hp : PacketOk (tQ t)
    · by_cases hn : s.parts = []
      · exact rtake_first x hv l s t w hd hh hp hn
      · by_cases hsm : rK (tQ t) = s.K ∧ rM (tQ t) = s.M ∧ rO (tQ t) = s.O ∧ rS (tQ t) = s.S ∧ rZ (tQ t) = s.z ∧ tN t = s.parts.length
        · exact rtake_next x hv l s t w hd hs hh hp hn hsm
        · have he : takeE s t = 7 := by
            unfold takeE
            rw [if_neg (fun y => by
              rcases y with y | y
              · rw [(headSb_iff t).2 hh] at y; cases y
              · rw [(packetB_iff _).2 hp] at y; cases y), if_pos ⟨hn, by
              cases hy : sameI s t with
              | false => rfl
              | true => exact absurd ((sameI_iff s t).1 hy) hsm⟩]
          exact (rtake_other x hv l s t w hd hh hp hn hsm).mono fun e w' ⟨h1, h2⟩ => ⟨by rw [he]; exact h1, hkeep 7 he (by decide) w' h2⟩
    · have he : takeE s t = 6 := by
        unfold takeE
        rw [if_pos (Or.inr (by
          cases hy : packetB (tQ t) with
          | false => rfl
          | true => exact absurd ((packetB_iff _).1 hy) hp))]
      exact (rtake_nopacket _ t w hh hp).mono fun e w' ⟨h1, h2⟩ => ⟨by rw [he]; exact h1, hkeep 6 he (by decide) w' h2⟩
  · have he : takeE s t = 6 := by
      unfold takeE
      rw [if_pos (Or.inl (by
        cases hy : headSb t with
        | false => rfl
        | true => exact absurd ((headSb_iff t).1 hy) hh))]
    exact (rtake_head _ t w hh).mono fun e w' ⟨h1, h2⟩ => ⟨by rw [he]; exact h1, hkeep 6 he (by decide) w' h2⟩

end Go.Proofs.YtnjaofkieajnlaaGreat

/- The statement's own 'heard': Hear, Object and Wants of a pair of catchers. -/
namespace Go.Proofs.YtnjaofkieajnlaaGreat
open Go.RowKit

/-- A pair of catchers. -/
structure PC where
  c : Nat
  r : Nat
  b : Nat
  av : Value
  pv : Value
  s : CS

structure CatPair (w : World) (x : PC) : Prop where
  prog : ProgCat w x.c 0 89 89 (fun _ => undef) x.s
  doc : DocCat w x.r x.b x.av x.pv x.s
  ok : CSok x.s

/-- The blocks of a pair. -/
def PC.fp (x : PC) (k : Nat) : Prop := k = x.c ∨ fpD x.r x.b x.av x.pv x.s k

theorem CatPair.parted {w : World} {x : PC} (h : CatPair w x) {k : Nat} (hk : fpD x.r x.b x.av x.pv x.s k) : k ≠ x.c := by
  rintro rfl
  obtain ⟨cs, t, hc, ht⟩ := h.doc.types hk
  obtain ⟨c', hc', _⟩ := h.prog.2
  rw [hc'] at hc
  simp at hc
  obtain ⟨_, rfl⟩ := hc
  rcases ht with ht | ht | ht | ht <;> exact absurd ht (by decide)

def catK : Kind PC where
  no := ⟨0, 0, 0, .slice none 0 0, .slice none 0 0, CS.zero⟩
  p := PC.c
  r := PC.r
  fp := PC.fp
  lies := CatPair
  lt := fun h hk => by
    rcases hk with rfl | hk
    · exact CatOff.lt h.prog
    · exact h.doc.lt hk
  blocks := fun h hb => ⟨CatOff.block h.prog (hb _ (Or.inl rfl)), h.doc.blocks (fun k hk => hb k (Or.inr hk)), h.ok⟩

theorem objE_form (s : CS) : ∃ x n, objE s = (x, n) := ⟨_, _, rfl⟩

set_option maxRecDepth 100000 in
set_option maxHeartbeats 8000000 in
theorem heard_any (wb : Nat) (csv : Value) (cl : List PC) (k a b c K M O S : Int) (s : ByteArray) (lv : Value) (w : World) (hcb0 : w.cell? ⟨wb, 7, none⟩ = some csv) (hwl : wb < w.heap.size) (hat : PairsAt catK w 49 csv cl) (ha1 : -9223372036854775808 ≤ a) (ha2 : a ≤ 9223372036854775807) (hk : k = 6 ∨ k = 7 ∨ k = 8) :
    Calls Tryz.prog 14 #[.pointer (some ⟨wb, 0, none⟩), .agg (opC k a b c K M O S s lv)] w fun e w' => e = .returned (.bool true) ∧ ∃ cl', PairsAt catK w' 49 csv cl' ∧ cl'.length = cl.length ∧ Chg (pfp catK csv cl) w w' ∧ (∀ k, pfp catK csv cl' k → pfp catK csv cl k ∨ w.heap.size ≤ k) := by
  have hbA := (Below.refl w.heap.size w).alloc (Nat.le_refl _) (.cells (opC k a b c K M O S s lv) 29)
  have hat1 := hat.on hbA
  have hop : (w.alloc (.cells (opC k a b c K M O S s lv) 29)).heap[w.heap.size]? = some (.cells (opC k a b c K M O S s lv) 29 (0, 0)) := heap_alloc_new w _
  have hcb : (w.alloc (.cells (opC k a b c K M O S s lv) 29)).cell? ⟨wb, 7, none⟩ = some csv := (hbA.cell (p := ⟨wb, 7, none⟩) hwl).trans hcb0
  have hsame : ∀ w', Below w.heap.size w w' → ∃ cl', PairsAt catK w' 49 csv cl' ∧ cl'.length = cl.length ∧ Chg (pfp catK csv cl) w w' ∧ (∀ k, pfp catK csv cl' k → pfp catK csv cl k ∨ w.heap.size ≤ k) := fun w' h => ⟨cl, hat.on h, rfl, Chg.of_below h _, fun k hk => Or.inl hk⟩
  have HS := hide hsame
  clear hsame
  by_cases hl0 : cl.length = 0
  · obtain ⟨ao, cap, rfl⟩ := hat.shape0 hl0
    have hend := HS.out _ hbA
    clear HS
    go_enter Tryz.func14, Tryz.ntmps14
    go_wp2_with fail
    go_ret
    exact ⟨rfl, hend⟩
  · have hjl := placeOf_lt cl.length a (by omega)
    have hjp := pick_place' a cl.length (by omega)
    generalize placeOf cl.length a = j at *
    obtain ⟨g, cap, rfl, hg, p0, p1⟩ := hat.cells hjl
    have hpk := fun W => lpick_any a (cl.length : Int) W ha1 ha2 (by omega)
    rw [hjp] at hpk
    clear hjp
    have q0 := (hbA.cell (p := ⟨g, j * 2, none⟩) hg).trans p0
    have q1 := (hbA.cell (p := ⟨g, j * 2 + 1, none⟩) hg).trans p1
    obtain ⟨c0, c1, c2, c4, c5, c6, c7, c8⟩ := op_cells hop
    have i1 : (0 : Int) ≤ (j : Int) := by omega
    have i2 : (j : Int) < (cl.length : Int) := by omega
    have hbn : ((cl.length : Int) == 0) = false := beq_eq_false_iff_ne.2 (by omega)
    generalize hpp : catK.p (cl.getD j catK.no) = p at *
    generalize hrr : catK.r (cl.getD j catK.no) = r at *
    go_enter Tryz.func14, Tryz.ntmps14
    go_upto_region 3 with fail
    generalize hW : w.alloc (.cells (opC k a b c K M O S s lv) 29) = W at *
    have hWs : W.heap.size = w.heap.size + 1 := by rw [← hW]; simp
    go_cut [5] (fun s5 wc => ∃ x, s5 = .pointer (some ⟨x, 0, none⟩) ∧ wc.heap[x]? = some (.cells #[.pointer (some ⟨p, 0, none⟩), .pointer (some ⟨r, 0, none⟩)] 49 (0, 0)) ∧ W.heap.size ≤ x ∧ Below W.heap.size W wc)
    case first =>
      have hbf := ((Below.refl W.heap.size W).alloc (Nat.le_refl _) (.cells #[.pointer (some ⟨p, 0, none⟩), .pointer (some ⟨r, 0, none⟩)] 49)).drew
      have hnw := heap_alloc_new W (.cells #[.pointer (some ⟨p, 0, none⟩), .pointer (some ⟨r, 0, none⟩)] 49)
      have hgW : g < W.heap.size := by omega
      have hwW : wb < W.heap.size := by omega
      have hoW : w.heap.size < W.heap.size := by omega
      clear hat hat1 hop hcb0 p0 p1 c0 c2 c4 c5 c6 c7 c8 hbA HS
      go_region_held3 (fun w' => w'.cell? ⟨wb, 7, none⟩ = some (.slice (some ⟨g, 0, none⟩) cl.length cap) ∧ w'.cell? ⟨w.heap.size, 1, none⟩ = some (.int .i64 a) ∧ w'.cell? ⟨g, j * 2, none⟩ = some (.pointer (some ⟨p, 0, none⟩)) ∧ w'.cell? ⟨g, j * 2 + 1, none⟩ = some (.pointer (some ⟨r, 0, none⟩)))
        (first | (exact ⟨hcb, c1, q0, q1⟩) | go_keep)
        (first
          | (go_at_call 25; refine (hpk _).mono ?_; rintro e w2 ⟨rfl, h2⟩; obtain rfl := h2.symm))
      all_goals
        go_wp2_with fail
        go_meet
        case rel => exact ⟨w.heap.size + 1, rfl, by rw [← hWs]; exact hnw, by omega, hbf⟩
    case rest =>
      obtain ⟨x, rfl, hx, hxl, hbc⟩ := hcut
      have hbwc : Below w.heap.size w wc := hbA.trans (hbc.mono (by omega))
      have hatc := hat.on hbwc
      have hopc := block_on hop hbc
      have hpr := hatc.each j hjl
      have hupd : ∀ w' B', Chg (catK.fp (cl.getD j catK.no)) wc w' → CatPair w' B' → B'.c = (cl.getD j catK.no).c → B'.r = (cl.getD j catK.no).r → (∀ k, B'.fp k → (cl.getD j catK.no).fp k ∨ wc.heap.size ≤ k) → ∃ cl', PairsAt catK w' 49 (.slice (some ⟨g, 0, none⟩) cl.length cap) cl' ∧ cl'.length = cl.length ∧ Chg (pfp catK (.slice (some ⟨g, 0, none⟩) cl.length cap) cl) w w' ∧ (∀ k, pfp catK (.slice (some ⟨g, 0, none⟩) cl.length cap) cl' k → pfp catK (.slice (some ⟨g, 0, none⟩) cl.length cap) cl k ∨ w.heap.size ≤ k) :=
        fun w' B' h1 h2 h3 h4 h5 => by
          obtain ⟨u1, u2, u3⟩ := hatc.update hjl (b := B') h1 h2 h3 h4 h5
          refine ⟨cl.set j B', u1, by simp, chg_below hbwc u2, fun k hk => ?_⟩
          rcases u3 k hk with h | h
          · exact Or.inl h
          · right; have := hbwc.size; omega
      have hold : ∀ w', Below wc.heap.size wc w' → ∃ cl', PairsAt catK w' 49 (.slice (some ⟨g, 0, none⟩) cl.length cap) cl' ∧ cl'.length = cl.length ∧ Chg (pfp catK (.slice (some ⟨g, 0, none⟩) cl.length cap) cl) w w' ∧ (∀ k, pfp catK (.slice (some ⟨g, 0, none⟩) cl.length cap) cl' k → pfp catK (.slice (some ⟨g, 0, none⟩) cl.length cap) cl k ∨ w.heap.size ≤ k) := fun w' h => HS.out w' (hbwc.trans (h.mono hbwc.size))
      have hpp2 : (cl.getD j catK.no).c = p := hpp
      have hrr2 : (cl.getD j catK.no).r = r := hrr
      have hpr2 : CatPair wc (cl.getD j catK.no) := hpr
      have hfpe : catK.fp (cl.getD j catK.no) = (cl.getD j catK.no).fp := rfl
      rw [hfpe] at hupd
      clear hpr hfpe hpp hrr
      subst hpp2 hrr2
      clear hat hat1 hop hcb hcb0 p0 p1 q0 q1 c0 c1 c2 c4 c5 c6 c7 c8 hpk hbc hatc HS hbA hbwc
      generalize cl.getD j catK.no = B at *
      obtain ⟨hx0, hx1⟩ := two_cells hx
      obtain ⟨c0, c1, c2, c4, c5, c6, c7, c8⟩ := op_cells hopc
      have hcl := CatOff.lt hpr2.prog
      have hHO := hide hold
      have hHU := hide hupd
      have hxp : x ≠ B.c := by
        rintro rfl
        obtain ⟨cs, hcs, _⟩ := hpr2.prog.2
        rw [hx] at hcs
        simp at hcs
      have hopp : w.heap.size ≠ B.c := by
        intro e
        obtain ⟨cs, hcs, _⟩ := hpr2.prog.2
        rw [← e, hopc] at hcs
        simp at hcs
      have hxlt : x < wc.heap.size := (Array.getElem?_eq_some_iff.1 hx).1
      have holt : w.heap.size < wc.heap.size := (Array.getElem?_eq_some_iff.1 hopc).1
      clear hold hupd c1 c2 c4 c5 c6 c7
      rcases hk with rfl | rfl | rfl
      · have hhr := hear_by B.c s _ _ wc (ohear_any B.c 0 89 89 (fun _ => undef) B.s s wc hpr2.prog hpr2.ok)
        have hdc := fun W h => rhear_any B.r B.b B.av B.pv B.s s W h hpr2.ok
        have hok2 := hpr2.ok.hear s
        generalize hearE B.s s = ee at *
        generalize hearS B.s s = s2 at *
        go_wp2_with fail
        refine hhr.mono ?_
        rintro e w1 ⟨rfl, hpc1, hcg⟩
        have hdoc1 := hpr2.doc.blocks (w' := w1) (fun k hk => hcg.block k (hpr2.doc.lt hk) (fun e => hpr2.parted hk e))
        have hx' := (hcg.block x hxlt hxp).trans hx
        have hop' := (hcg.block _ holt hopp).trans hopc
        obtain ⟨y0, y1⟩ := two_cells hx'
        clear hx0 hx1 c0 c8 hhr
        obtain ⟨c0, c1, c2, c4, c5, c6, c7, c8⟩ := op_cells hop'
        clear c1 c2 c4 c5 c6 c7
        go_wp2_with fail
        refine (hdc _ hdoc1).mono ?_
        rintro e w2 ⟨rfl, b', av', pv', hd2, hcg2, hnew2⟩
        have hne2 : ¬ fpD B.r B.b B.av B.pv B.s B.c := fun h => hpr2.parted h rfl
        have hsz1 := hcg.size
        have hend := hHU.out w2 ⟨B.c, B.r, b', av', pv', s2⟩ ((hcg.mono (fun k _ h => Or.inl h) : Chg B.fp wc w1).trans hcg2 (fun k _ h => Or.inr h)) ⟨CatOff.block hpc1 (hcg2.block _ (Nat.lt_of_lt_of_le hcl hsz1) hne2), hd2, hok2⟩ rfl rfl (fun k hk => by
          rcases hk with hk | hk
          · exact Or.inl (Or.inl hk)
          · rcases hnew2 k hk with h | h
            · exact Or.inl (Or.inr h)
            · right; omega)
        clear hHO hHU hpr2 hopc hx hdc hdoc1 hd2 hop' hx' y0 y1 c0 c8 hcg hcg2 hpc1 hnew2
        go_wp2_with fail
        go_ret
        exact ⟨by first | rfl | simp, hend⟩
      · have hob := object_by B.c _ _ _ wc (oobj_any B.c 0 89 89 (fun _ => undef) B.s wc hpr2.prog hpr2.ok)
        have hdc := fun W h => robj_any B.r B.b B.av B.pv B.s W h hpr2.ok
        obtain ⟨xo, no, hoe⟩ := objE_form B.s
        rw [hoe] at hob hdc
        dsimp only at hob hdc
        clear hoe
        have hse : (xo.toList == xo.toList) = true := by simp
        go_wp2_with fail
        refine hob.mono ?_
        rintro e w1 ⟨rfl, hb1⟩
        have hdoc1 := hpr2.doc.on hb1
        have hx' := block_on hx hb1
        obtain ⟨y0, y1⟩ := two_cells hx'
        clear hx0 hx1 c0 c8 hob
        go_wp2_with fail
        refine (hdc _ hdoc1).mono ?_
        rintro e w2 ⟨rfl, hb2⟩
        have hend := hHO.out w2 (hb1.trans (hb2.mono hb1.size))
        clear hHO hHU hpr2 hopc hx hdc hdoc1 hx' y0 y1 hb1 hb2
        go_wp2_with fail
        go_ret
        exact ⟨by first | rfl | simp, hend⟩
      · have hwa := wants_by B.c _ _ wc (owants_any B.c 0 89 89 (fun _ => undef) B.s wc hpr2.prog hpr2.ok)
        have hdc := fun W h => rwants_any B.r B.b B.av B.pv B.s W h hpr2.ok
        generalize wantE B.s = ee at *
        go_wp2_with fail
        refine hwa.mono ?_
        rintro e w1 ⟨rfl, h1⟩
        obtain rfl := h1.symm
        clear hwa
        go_wp2_with fail
        refine (hdc _ hpr2.doc).mono ?_
        rintro e w2 ⟨rfl, hb2⟩
        have hend := hHO.out w2 hb2
        clear hHO hHU hpr2 hopc hx hdc hx0 hx1 c0 c8 hb2
        go_wp2_with fail
        go_ret
        exact ⟨by first | rfl | simp, hend⟩

end Go.Proofs.YtnjaofkieajnlaaGreat

/- The statement's own 'taken': Take, Whole and Lacks of a pair of inboxes. -/
namespace Go.Proofs.YtnjaofkieajnlaaGreat
open Go.RowKit

/-- A pair of inboxes. -/
structure PI where
  x : Nat
  r : Nat
  hv : Value
  l : List PD
  s : IS

structure InbPair (w : World) (x : PI) : Prop where
  prog : ProgInb w x.x 96 x.s
  doc : DocInbox w x.r x.hv x.l x.s
  ok : ISok x.s

/-- The blocks of a pair. -/
def PI.fp (x : PI) (k : Nat) : Prop := k = x.x ∨ fpI x.r x.hv x.l x.s k

/-- The blocks of the document's inbox are of six types. -/
theorem DocInbox.types {w : World} {x : Nat} {hv : Value} {l : List PD} {s : IS} (h : DocInbox w x hv l s) {k : Nat} (hk : fpI x hv l s k) : ∃ cs t, w.heap[k]? = some (.cells cs t (0, 0)) ∧ (t = 55 ∨ t = 44 ∨ t = 47 ∨ t = 70 ∨ t = 3 ∨ t = 9) := by
  rcases hk with rfl | hk | ⟨i, hi, hk⟩
  · exact ⟨_, _, h.box, Or.inl rfl⟩
  · obtain ⟨c, hc⟩ := owns_block h.parts.own hk
    exact ⟨c, _, hc, Or.inr (Or.inl rfl)⟩
  · obtain ⟨c, t, hc, ht⟩ := (h.parts.each i hi).types hk
    exact ⟨c, t, hc, Or.inr (Or.inr ht)⟩

theorem InbPair.parted {w : World} {x : PI} (h : InbPair w x) {k : Nat} (hk : fpI x.r x.hv x.l x.s k) : k ≠ x.x := by
  rintro rfl
  obtain ⟨cs, t, hc, ht⟩ := h.doc.types hk
  obtain ⟨c', hc', _⟩ := h.prog
  rw [hc'] at hc
  simp at hc
  obtain ⟨_, rfl⟩ := hc
  rcases ht with ht | ht | ht | ht | ht | ht <;> exact absurd ht (by decide)

def inbK : Kind PI where
  no := ⟨0, 0, .slice none 0 0, [], IS.zero⟩
  p := PI.x
  r := PI.r
  fp := PI.fp
  lies := InbPair
  lt := fun h hk => by
    rcases hk with rfl | hk
    · exact InbAt.lt h.prog
    · exact h.doc.lt hk
  blocks := fun h hb => ⟨InbAt.block h.prog (hb _ (Or.inl rfl)), h.doc.blocks (fun k hk => hb k (Or.inr hk)), h.ok⟩

theorem wholeE_form (s : IS) : ∃ x n, wholeE s = (x, n) := ⟨_, _, rfl⟩

set_option maxRecDepth 100000 in
set_option maxHeartbeats 8000000 in
theorem taken_any (wb : Nat) (csv : Value) (cl : List PI) (k a b c K M O S : Int) (s : ByteArray) (lv : Value) (w : World) (hcb0 : w.cell? ⟨wb, 8, none⟩ = some csv) (hwl : wb < w.heap.size) (hat : PairsAt inbK w 57 csv cl) (ha1 : -9223372036854775808 ≤ a) (ha2 : a ≤ 9223372036854775807) (hk : k = 10 ∨ k = 11 ∨ k = 12) :
    Calls Tryz.prog 16 #[.pointer (some ⟨wb, 0, none⟩), .agg (opC k a b c K M O S s lv)] w fun e w' => e = .returned (.bool true) ∧ ∃ cl', PairsAt inbK w' 57 csv cl' ∧ cl'.length = cl.length ∧ Chg (pfp inbK csv cl) w w' ∧ (∀ k, pfp inbK csv cl' k → pfp inbK csv cl k ∨ w.heap.size ≤ k) := by
  have hbA := (Below.refl w.heap.size w).alloc (Nat.le_refl _) (.cells (opC k a b c K M O S s lv) 29)
  have hat1 := hat.on hbA
  have hop : (w.alloc (.cells (opC k a b c K M O S s lv) 29)).heap[w.heap.size]? = some (.cells (opC k a b c K M O S s lv) 29 (0, 0)) := heap_alloc_new w _
  have hcb : (w.alloc (.cells (opC k a b c K M O S s lv) 29)).cell? ⟨wb, 8, none⟩ = some csv := (hbA.cell (p := ⟨wb, 8, none⟩) hwl).trans hcb0
  have hsame : ∀ w', Below w.heap.size w w' → ∃ cl', PairsAt inbK w' 57 csv cl' ∧ cl'.length = cl.length ∧ Chg (pfp inbK csv cl) w w' ∧ (∀ k, pfp inbK csv cl' k → pfp inbK csv cl k ∨ w.heap.size ≤ k) := fun w' h => ⟨cl, hat.on h, rfl, Chg.of_below h _, fun k hk => Or.inl hk⟩
  have HS := hide hsame
  clear hsame
  by_cases hl0 : cl.length = 0
  · obtain ⟨ao, cap, rfl⟩ := hat.shape0 hl0
    have hend := HS.out _ hbA
    clear HS
    go_enter Tryz.func16, Tryz.ntmps16
    go_wp2_with fail
    go_ret
    exact ⟨rfl, hend⟩
  · have hjl := placeOf_lt cl.length a (by omega)
    have hjp := pick_place' a cl.length (by omega)
    generalize placeOf cl.length a = j at *
    obtain ⟨g, cap, rfl, hg, p0, p1⟩ := hat.cells hjl
    have hpk := fun W => lpick_any a (cl.length : Int) W ha1 ha2 (by omega)
    rw [hjp] at hpk
    clear hjp
    have q0 := (hbA.cell (p := ⟨g, j * 2, none⟩) hg).trans p0
    have q1 := (hbA.cell (p := ⟨g, j * 2 + 1, none⟩) hg).trans p1
    obtain ⟨c0, c1, c2, c4, c5, c6, c7, c8⟩ := op_cells hop
    have i1 : (0 : Int) ≤ (j : Int) := by omega
    have i2 : (j : Int) < (cl.length : Int) := by omega
    have hbn : ((cl.length : Int) == 0) = false := beq_eq_false_iff_ne.2 (by omega)
    generalize hpp : inbK.p (cl.getD j inbK.no) = p at *
    generalize hrr : inbK.r (cl.getD j inbK.no) = r at *
    go_enter Tryz.func16, Tryz.ntmps16
    go_upto_region 3 with fail
    generalize hW : w.alloc (.cells (opC k a b c K M O S s lv) 29) = W at *
    have hWs : W.heap.size = w.heap.size + 1 := by rw [← hW]; simp
    go_cut [5] (fun s5 wc => ∃ x, s5 = .pointer (some ⟨x, 0, none⟩) ∧ wc.heap[x]? = some (.cells #[.pointer (some ⟨p, 0, none⟩), .pointer (some ⟨r, 0, none⟩)] 57 (0, 0)) ∧ W.heap.size ≤ x ∧ Below W.heap.size W wc)
    case first =>
      have hbf := ((Below.refl W.heap.size W).alloc (Nat.le_refl _) (.cells #[.pointer (some ⟨p, 0, none⟩), .pointer (some ⟨r, 0, none⟩)] 57)).drew
      have hnw := heap_alloc_new W (.cells #[.pointer (some ⟨p, 0, none⟩), .pointer (some ⟨r, 0, none⟩)] 57)
      have hgW : g < W.heap.size := by omega
      have hwW : wb < W.heap.size := by omega
      have hoW : w.heap.size < W.heap.size := by omega
      clear hat hat1 hop hcb0 p0 p1 c0 c2 c4 c5 c6 c7 c8 hbA HS
      go_region_held3 (fun w' => w'.cell? ⟨wb, 8, none⟩ = some (.slice (some ⟨g, 0, none⟩) cl.length cap) ∧ w'.cell? ⟨w.heap.size, 1, none⟩ = some (.int .i64 a) ∧ w'.cell? ⟨g, j * 2, none⟩ = some (.pointer (some ⟨p, 0, none⟩)) ∧ w'.cell? ⟨g, j * 2 + 1, none⟩ = some (.pointer (some ⟨r, 0, none⟩)))
        (first | (exact ⟨hcb, c1, q0, q1⟩) | go_keep)
        (first
          | (go_at_call 25; refine (hpk _).mono ?_; rintro e w2 ⟨rfl, h2⟩; obtain rfl := h2.symm))
      all_goals
        go_wp2_with fail
        go_meet
        case rel => exact ⟨w.heap.size + 1, rfl, by rw [← hWs]; exact hnw, by omega, hbf⟩
    case rest =>
      obtain ⟨x, rfl, hx, hxl, hbc⟩ := hcut
      have hbwc : Below w.heap.size w wc := hbA.trans (hbc.mono (by omega))
      have hatc := hat.on hbwc
      have hopc := block_on hop hbc
      have hpr := hatc.each j hjl
      have hupd : ∀ w' B', Chg (inbK.fp (cl.getD j inbK.no)) wc w' → InbPair w' B' → B'.x = (cl.getD j inbK.no).x → B'.r = (cl.getD j inbK.no).r → (∀ k, B'.fp k → (cl.getD j inbK.no).fp k ∨ wc.heap.size ≤ k) → ∃ cl', PairsAt inbK w' 57 (.slice (some ⟨g, 0, none⟩) cl.length cap) cl' ∧ cl'.length = cl.length ∧ Chg (pfp inbK (.slice (some ⟨g, 0, none⟩) cl.length cap) cl) w w' ∧ (∀ k, pfp inbK (.slice (some ⟨g, 0, none⟩) cl.length cap) cl' k → pfp inbK (.slice (some ⟨g, 0, none⟩) cl.length cap) cl k ∨ w.heap.size ≤ k) :=
        fun w' B' h1 h2 h3 h4 h5 => by
          obtain ⟨u1, u2, u3⟩ := hatc.update hjl (b := B') h1 h2 h3 h4 h5
          refine ⟨cl.set j B', u1, by simp, chg_below hbwc u2, fun k hk => ?_⟩
          rcases u3 k hk with h | h
          · exact Or.inl h
          · right; have := hbwc.size; omega
      have hold : ∀ w', Below wc.heap.size wc w' → ∃ cl', PairsAt inbK w' 57 (.slice (some ⟨g, 0, none⟩) cl.length cap) cl' ∧ cl'.length = cl.length ∧ Chg (pfp inbK (.slice (some ⟨g, 0, none⟩) cl.length cap) cl) w w' ∧ (∀ k, pfp inbK (.slice (some ⟨g, 0, none⟩) cl.length cap) cl' k → pfp inbK (.slice (some ⟨g, 0, none⟩) cl.length cap) cl k ∨ w.heap.size ≤ k) := fun w' h => HS.out w' (hbwc.trans (h.mono hbwc.size))
      have hpp2 : (cl.getD j inbK.no).x = p := hpp
      have hrr2 : (cl.getD j inbK.no).r = r := hrr
      have hpr2 : InbPair wc (cl.getD j inbK.no) := hpr
      have hfpe : inbK.fp (cl.getD j inbK.no) = (cl.getD j inbK.no).fp := rfl
      rw [hfpe] at hupd
      clear hpr hfpe hpp hrr
      subst hpp2 hrr2
      clear hat hat1 hop hcb hcb0 p0 p1 q0 q1 c0 c1 c2 c4 c5 c6 c7 c8 hpk hbc hatc HS hbA hbwc
      generalize cl.getD j inbK.no = B at *
      obtain ⟨hx0, hx1⟩ := two_cells hx
      obtain ⟨c0, c1, c2, c4, c5, c6, c7, c8⟩ := op_cells hopc
      have hcl := InbAt.lt hpr2.prog
      have hHO := hide hold
      have hHU := hide hupd
      have hxp : x ≠ B.x := by
        rintro rfl
        obtain ⟨cs, hcs, _⟩ := hpr2.prog
        rw [hx] at hcs
        simp at hcs
      have hopp : w.heap.size ≠ B.x := by
        intro e
        obtain ⟨cs, hcs, _⟩ := hpr2.prog
        rw [← e, hopc] at hcs
        simp at hcs
      have hxlt : x < wc.heap.size := (Array.getElem?_eq_some_iff.1 hx).1
      have holt : w.heap.size < wc.heap.size := (Array.getElem?_eq_some_iff.1 hopc).1
      clear hold hupd c1 c2 c4 c5 c6 c7
      rcases hk with rfl | rfl | rfl
      · have hhr := take_by B.x s _ _ wc (otake_any B.x 96 B.s s wc hpr2.prog hpr2.ok)
        have hdc := fun W h => rtake_any B.r B.hv B.l B.s s W h hpr2.ok
        have hok2 := hpr2.ok.take s
        generalize takeE B.s s = ee at *
        generalize takeS B.s s = s2 at *
        go_wp2_with fail
        refine hhr.mono ?_
        rintro e w1 ⟨rfl, hpc1, hcg⟩
        have hdoc1 := hpr2.doc.blocks (w' := w1) (fun k hk => hcg.block k (hpr2.doc.lt hk) (fun e => hpr2.parted hk e))
        have hx' := (hcg.block x hxlt hxp).trans hx
        have hop' := (hcg.block _ holt hopp).trans hopc
        obtain ⟨y0, y1⟩ := two_cells hx'
        clear hx0 hx1 c0 c8 hhr
        obtain ⟨c0, c1, c2, c4, c5, c6, c7, c8⟩ := op_cells hop'
        clear c1 c2 c4 c5 c6 c7
        go_wp2_with fail
        refine (hdc _ hdoc1).mono ?_
        rintro e w2 ⟨rfl, hv', l', hd2, hcg2, hnew2⟩
        have hne2 : ¬ fpI B.r B.hv B.l B.s B.x := fun h => hpr2.parted h rfl
        have hsz1 := hcg.size
        have hend := hHU.out w2 ⟨B.x, B.r, hv', l', s2⟩ ((hcg.mono (fun k _ h => Or.inl h) : Chg B.fp wc w1).trans hcg2 (fun k _ h => Or.inr h)) ⟨InbAt.block hpc1 (hcg2.block _ (Nat.lt_of_lt_of_le hcl hsz1) hne2), hd2, hok2⟩ rfl rfl (fun k hk => by
          rcases hk with hk | hk
          · exact Or.inl (Or.inl hk)
          · rcases hnew2 k hk with h | h
            · exact Or.inl (Or.inr h)
            · right; omega)
        clear hHO hHU hpr2 hopc hx hdc hdoc1 hd2 hop' hx' y0 y1 c0 c8 hcg hcg2 hpc1 hnew2
        go_wp2_with fail
        go_ret
        exact ⟨by first | rfl | simp, hend⟩
      · have hob := whole_by B.x _ _ _ wc (owhole_any B.x 96 B.s wc hpr2.prog hpr2.ok)
        have hdc := fun W h => rwhole_any B.r B.hv B.l B.s W h hpr2.ok
        obtain ⟨xo, no, hoe⟩ := wholeE_form B.s
        rw [hoe] at hob hdc
        dsimp only at hob hdc
        clear hoe
        have hse : (xo.toList == xo.toList) = true := by simp
        go_wp2_with fail
        refine hob.mono ?_
        rintro e w1 ⟨rfl, hb1⟩
        have hdoc1 := hpr2.doc.on hb1
        have hx' := block_on hx hb1
        obtain ⟨y0, y1⟩ := two_cells hx'
        clear hx0 hx1 c0 c8 hob
        go_wp2_with fail
        refine (hdc _ hdoc1).mono ?_
        rintro e w2 ⟨rfl, hb2⟩
        have hend := hHO.out w2 (hb1.trans (hb2.mono hb1.size))
        clear hHO hHU hpr2 hopc hx hdc hdoc1 hx' y0 y1 hb1 hb2
        go_wp2_with fail
        go_ret
        exact ⟨by first | rfl | simp, hend⟩
      · have hwa := lacks_by B.x _ _ wc (olacks_any B.x 96 B.s wc hpr2.prog hpr2.ok)
        have hdc := fun W h => rlacks_any B.r B.hv B.l B.s W h hpr2.ok
        generalize lackE B.s = ee at *
        go_wp2_with fail
        refine hwa.mono ?_
        rintro e w1 ⟨rfl, h1⟩
        obtain rfl := h1.symm
        clear hwa
        go_wp2_with fail
        refine (hdc _ hpr2.doc).mono ?_
        rintro e w2 ⟨rfl, hb2⟩
        have hend := hHO.out w2 hb2
        clear hHO hHU hpr2 hopc hx hdc hx0 hx1 c0 c8 hb2
        go_wp2_with fail
        go_ret
        exact ⟨by first | rfl | simp, hend⟩

end Go.Proofs.YtnjaofkieajnlaaGreat
