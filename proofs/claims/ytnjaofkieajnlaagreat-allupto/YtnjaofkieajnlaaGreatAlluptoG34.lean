/- Texts of the proof, part 35. -/
import Derived.Test.YtnjaofkieajnlaaGreatAlluptoG31

/- The document's own inbox: Take, of a further sheet, walked. -/
namespace Go.Proofs.YtnjaofkieajnlaaGreat
open Go.RowKit

set_option maxRecDepth 100000 in
set_option maxHeartbeats 8000000 in
theorem rtake_next (x : Nat) (hv : Value) (l : List PD) (s : IS) (t : ByteArray) (w : World) (hd : DocInbox w x hv l s) (hs : ISok s) (h : headOk t) (hp : PacketOk (tQ t)) (hne : s.parts ≠ []) (hsm : rK (tQ t) = s.K ∧ rM (tQ t) = s.M ∧ rO (tQ t) = s.O ∧ rS (tQ t) = s.S ∧ rZ (tQ t) = s.z ∧ tN t = s.parts.length) :
    Calls Tryz.prog 39 #[.pointer (some ⟨x, 0, none⟩), .string t] w fun e w' => e = .returned (.int .i64 (takeE s t)) ∧ ∃ hv' l', DocInbox w' x hv' l' (takeS s t) ∧ Chg (fpI x hv l s) w w' ∧ (∀ k, fpI x hv' l' (takeS s t) k → fpI x hv l s k ∨ w.heap.size ≤ k) := by
  have hbd : ∀ n, Below w.heap.size w (w.drewN n) := fun n => ⟨rfl, rfl, rfl, Nat.le_refl _, fun _ _ => rfl⟩
  have hrd := rread_ok (tQ t) hp
  obtain ⟨ao, cap, hvs⟩ := hd.shape
  have hlen := hd.parts.len
  have hpo : partsOf s t = s.parts := by unfold partsOf; rw [if_neg hne]
  have he := takeE_main h hp (Or.inr hsm)
  have hS : takeS s t = if takeE s t = 0 then ⟨rK (tQ t), rM (tQ t), rO (tQ t), rS (tQ t), rZ (tQ t), (partsOf s t).set (tP t) (hearS ((partsOf s t).getD (tP t) CS.zero) (tQ t))⟩ else s := rfl
  rw [hpo] at he hS
  obtain ⟨h4, e0, n1, n2, n3⟩ := h
  obtain ⟨m1, m2, m3, m4, m5, m6⟩ := hsm
  have hpl : tP t < l.length := by omega
  have hok := (hs.part (i := tP t) (by omega)).1
  have hhr := fun (W : World) (d : PD) (hdc : DocCat W d.r d.b d.av d.pv (s.parts.getD (tP t) CS.zero)) => rhear_any d.r d.b d.av d.pv (s.parts.getD (tP t) CS.zero) (tQ t) W hdc hok
  rw [m1, m2, m3, m4, m5] at hS
  have hS2 : hearE (s.parts.getD (tP t) CS.zero) (tQ t) = 0 → takeS s t = ⟨s.K, s.M, s.O, s.S, s.z, s.parts.set (tP t) (hearS (s.parts.getD (tP t) CS.zero) (tQ t))⟩ := fun e => by rw [hS, he, if_pos e]
  have hS3 : hearE (s.parts.getD (tP t) CS.zero) (tQ t) ≠ 0 → takeS s t = s ∧ hearS (s.parts.getD (tP t) CS.zero) (tQ t) = s.parts.getD (tP t) CS.zero := fun e => ⟨by rw [hS, he, if_neg e], by unfold hearS; rw [if_neg e]⟩
  rw [he]
  unfold ReadSays at hrd
  rw [m1, m2, m3, m4, m5] at hrd
  have htq : tQ t = t.extract 3 t.size := rfl
  rw [htq] at hrd hhr hS2 hS3
  obtain ⟨ee, hee⟩ : ∃ ee, ee = hearE (s.parts.getD (tP t) CS.zero) (t.extract 3 t.size) := ⟨_, rfl⟩
  obtain ⟨c2, hc2⟩ : ∃ c2, c2 = hearS (s.parts.getD (tP t) CS.zero) (t.extract 3 t.size) := ⟨_, rfl⟩
  rw [htq]
  rw [← hee] at hhr hS2 hS3 ⊢
  rw [← hc2] at hhr hS2 hS3
  have HS2 := hide hS2
  have HS3 := hide hS3
  generalize rI (t.extract 3 t.size) = i at *
  generalize rQ (t.extract 3 t.size) = q at *
  have g0 := byteAt_get t 0 (by omega)
  have g1 := byteAt_get t 1 (by omega)
  have g2 := byteAt_get t 2 (by omega)
  have b1 := (byteAt t 1).toNat_lt
  have b2 := (byteAt t 2).toNat_lt
  have i0 : (0 : Int) < (t.size : Int) := by omega
  have i1 : (1 : Int) < (t.size : Int) := by omega
  have i2 : (2 : Int) < (t.size : Int) := by omega
  have i3 : (3 : Int) ≤ (t.size : Int) := by omega
  have l4 : ¬ (t.size : Int) < 4 := by omega
  have h1 : (((byteAt t 0).toNat : Int) != 83) = false := by rw [e0]; rfl
  unfold tN at n1 n2 n3 m6
  unfold tP at n3
  have h2 : ¬ ((byteAt t 2).toNat : Int) < 1 := by omega
  have h3 : ¬ (20 : Int) < ((byteAt t 2).toNat : Int) := by omega
  have h5 : ¬ ((byteAt t 2).toNat : Int) ≤ ((byteAt t 1).toNat : Int) := by omega
  have hln : l.length = (byteAt t 2).toNat := by omega
  have htp : (byteAt t 1).toNat = tP t := rfl
  subst hvs
  have HD := hide hd
  have Hln := hide hln
  have Hlt := hide (And.intro hpl htp)
  clear hpl htp
  clear hp e0 n1 n2 n3 htq hd hs he hS hS2 hS3 hee hc2 m1 m2 m3 m4 m5 m6 hlen hpo hln hne
  go_enter Tryz.func39, Tryz.ntmps39
  go_upto_region 1 with fail
  go_cut [37] (fun s37 wc => s37 = .bool false ∧ ∃ n, wc = w.drewN n)
  case first =>
    go_quiet (fail)
    go_wp2_with fail
    go_meet
    case rel => exact ⟨rfl, _, rfl⟩
  case rest =>
  obtain ⟨rfl, nq, rfl⟩ := hcut
  have hbq := hbd nq
  generalize w.drewN nq = V at *
  clear hbd g0 h1 h2 h3 h5
  go_wp2_with fail
  refine (hrd _).mono ?_
  rintro e w1 ⟨rfl, hb1⟩
  have hbw1 := hbq.trans (hb1.mono hbq.size)
  clear hrd hb1 hbq
  have hbA : Below w.heap.size w (w1.alloc (specB s.K s.M s.O s.S)) := hbw1.alloc hbw1.size _
  have hsA : (w1.alloc (specB s.K s.M s.O s.S)).heap[w1.heap.size]? = some (specB s.K s.M s.O s.S) := heap_alloc_new w1 _
  have hdA := HD.out.on hbA
  obtain ⟨d0, d1, d2, d3, d4, d5⟩ := inb_cells hdA.box
  have hwb := hbw1.size
  rw [Hln.out] at d5
  generalize hln2 : (byteAt t 2).toNat = ln at *
  have hd0 : decide (0 < ln) = true := decide_eq_true (by have := Hlt.out.1; have := Hln.out; omega)
  have hnn : ((ln : Int) != (ln : Int)) = false := by simp
  go_upto_region 8 with fail
  clear hln2 g2
  generalize w1.alloc (specB s.K s.M s.O s.S) = W at *
  obtain ⟨s0, s1, s2, s3⟩ := spec_cells hsA
  go_cut [80] (fun s80 wc => s80 = .bool false ∧ ∃ n, wc = W.drewN n)
  case first =>
    go_quiet (fail)
    go_wp2_with fail
    go_meet
    case rel => exact ⟨rfl, _, rfl⟩
  case rest =>
  obtain ⟨rfl, nq2, rfl⟩ := hcut
  have hdB : DocInbox (W.drewN nq2) x (.slice ao l.length cap) l s := hdA.blocks (fun k _ => rfl)
  have hbB : Below w.heap.size w (W.drewN nq2) := hbA.trans ⟨rfl, rfl, rfl, Nat.le_refl _, fun _ _ => rfl⟩
  have hsB : (W.drewN nq2).heap[w1.heap.size]? = some (specB s.K s.M s.O s.S) := hsA
  generalize W.drewN nq2 = U at *
  clear d0 d1 d2 d3 d4 d5 s0 s1 s2 s3 hdA hbA hsA hd0 hnn
  obtain ⟨g, cap', hve, hg, cp⟩ := hdB.parts.cell Hlt.out.1
  simp only [Value.slice.injEq] at hve
  obtain ⟨rfl, _, rfl⟩ := hve
  have i5 : ¬ (ln : Int) < (ln : Int) := by omega
  go_wp2_with fail
  go_loopw [11] (fun hv11 wr => hv11 = .slice (some ⟨g, 0, none⟩) ln cap ∧ wr = U) (fun _ _ => 0)
  case atStart => exact ⟨rfl, rfl⟩
  case round =>
    obtain ⟨rfl, hwr⟩ := hrel
    subst hwr
    have cp2 : wr.cell? ⟨g, (byteAt t 1).toNat, none⟩ = some (.pointer (some ⟨(l.getD (tP t) PD.no).r, 0, none⟩)) := by rw [Hlt.out.2]; exact cp
    have i6 : ((byteAt t 1).toNat : Int) < (ln : Int) := by have := Hlt.out; have := Hln.out; omega
    have i7 : (0 : Int) ≤ ((byteAt t 1).toNat : Int) := by omega
    have hdc := hdB.parts.each (tP t) Hlt.out.1
    have hdcD : DocCat wr.drew (l.getD (tP t) PD.no).r (l.getD (tP t) PD.no).b (l.getD (tP t) PD.no).av (l.getD (tP t) PD.no).pv (s.parts.getD (tP t) CS.zero) := hdc.blocks (fun k _ => rfl)
    have hgn := hdB.parts.list (k := g) rfl Hlt.out.1
    have hdw := HD.out.parts.each (tP t) Hlt.out.1
    have hfl : ∀ k, fpD (l.getD (tP t) PD.no).r (l.getD (tP t) PD.no).b (l.getD (tP t) PD.no).av (l.getD (tP t) PD.no).pv (s.parts.getD (tP t) CS.zero) k → k < w.heap.size := fun k hk => hdw.lt hk
    have hsl : w1.heap.size < wr.heap.size := (Array.getElem?_eq_some_iff.1 hsB).1
    clear cp
    go_upto_region 12 with fail
    go_region_held3 (fun w' => w'.cell? ⟨g, (byteAt t 1).toNat, none⟩ = some (.pointer (some ⟨(l.getD (tP t) PD.no).r, 0, none⟩)))
      (first | (exact cp2) | (exact j0) | go_keep)
      (first
        | (go_at_call 33; refine (hhr _ (l.getD (tP t) PD.no) (by first | exact hdcD | exact hdc)).mono ?_; rintro e w2 ⟨rfl, b', av', pv', hdc2, hcg2, hnew2⟩; have j0 := (hcg2.cell (a := ⟨g, (byteAt t 1).toNat, none⟩) hg hgn).trans cp2))
    all_goals
      have hcg3 : Chg ((l.getD (tP t) PD.no).fp (s.parts.getD (tP t) CS.zero)) wr w2 := ⟨hcg2.os, hcg2.tape, hcg2.output, hcg2.size, hcg2.block⟩
      obtain ⟨u1, u2, u3⟩ := hdB.parts.update Hlt.out.1 (d := ⟨(l.getD (tP t) PD.no).r, b', av', pv'⟩) (c := c2) hcg3 hdc2 rfl hnew2
      have hs2 : w2.heap[w1.heap.size]? = some (specB s.K s.M s.O s.S) := (hcg3.block _ hsl (fun hk => by have := hfl _ hk; omega)).trans hsB
      have hx2 : w2.heap[x]? = some (inbB s (.slice (some ⟨g, 0, none⟩) l.length cap)) := (hcg3.block x hdB.xlt (fun hk => hdB.parted (Or.inr ⟨tP t, Hlt.out.1, hk⟩))).trans hdB.box
      have hxw := HD.out.xlt
      have hxn : ¬ fpP (.slice (some ⟨g, 0, none⟩) l.length cap) (l.set (tP t) ⟨(l.getD (tP t) PD.no).r, b', av', pv'⟩) (s.parts.set (tP t) c2) x := fun hk => by
        rcases u3 x hk with h | h
        · exact hdB.parted h
        · have := hbB.size
          omega
      have hcw : Chg (fpI x (.slice (some ⟨g, 0, none⟩) l.length cap) l s) w w2 := ((Chg.of_below hbB _).trans u2 (fun k _ hk => Or.inr hk))
      clear hhr hdc hdcD hdc2 hcg2 hcg3 hnew2 j0 cp2 hgn
      by_cases hee : ee = 0
      · have hT := HS2.out hee
        have hfx := inb_store hx2 (.int .i64 (s.K : Int)) (.int .i64 (s.M : Int)) (.int .i64 (s.O : Int)) (.int .i64 (s.S : Int)) (.int .i64 (s.z : Int)) (.slice (some ⟨g, 0, none⟩) ln cap)
        have hff := set6_far w2 x (.int .i64 (s.K : Int)) (.int .i64 (s.M : Int)) (.int .i64 (s.O : Int)) (.int .i64 (s.S : Int)) (.int .i64 (s.z : Int)) (.slice (some ⟨g, 0, none⟩) ln cap)
        have hend : ∃ hv' l', DocInbox ((((((w2.setCell ⟨x, 0, none⟩ (.int .i64 (s.K : Int))).setCell ⟨x, 1, none⟩ (.int .i64 (s.M : Int))).setCell ⟨x, 2, none⟩ (.int .i64 (s.O : Int))).setCell ⟨x, 3, none⟩ (.int .i64 (s.S : Int))).setCell ⟨x, 4, none⟩ (.int .i64 (s.z : Int))).setCell ⟨x, 5, none⟩ (.slice (some ⟨g, 0, none⟩) ln cap)) x hv' l' (takeS s t) ∧ Chg (fpI x (.slice (some ⟨g, 0, none⟩) l.length cap) l s) w ((((((w2.setCell ⟨x, 0, none⟩ (.int .i64 (s.K : Int))).setCell ⟨x, 1, none⟩ (.int .i64 (s.M : Int))).setCell ⟨x, 2, none⟩ (.int .i64 (s.O : Int))).setCell ⟨x, 3, none⟩ (.int .i64 (s.S : Int))).setCell ⟨x, 4, none⟩ (.int .i64 (s.z : Int))).setCell ⟨x, 5, none⟩ (.slice (some ⟨g, 0, none⟩) ln cap)) ∧ (∀ k, fpI x hv' l' (takeS s t) k → fpI x (.slice (some ⟨g, 0, none⟩) l.length cap) l s k ∨ w.heap.size ≤ k) := by
          rw [hT]
          refine ⟨.slice (some ⟨g, 0, none⟩) l.length cap, l.set (tP t) ⟨(l.getD (tP t) PD.no).r, b', av', pv'⟩, ⟨by rw [hfx, Hln.out], u1.blocks (fun k hk => hff k (fun e => hxn (e ▸ hk))), fun e => ?_⟩, ?_, fun k hk => ?_⟩
          · have hq := congrArg List.length (show s.parts.set (tP t) c2 = [] from e)
            rw [List.length_set, ← HD.out.parts.len] at hq
            have hlt := Hlt.out.1
            rw [hq] at hlt
            exact absurd hlt (Nat.not_lt_zero _)
          · exact (((((hcw.setCell (a := ⟨x, 0, none⟩) (Or.inr (Or.inl rfl)) _).setCell (a := ⟨x, 1, none⟩) (Or.inr (Or.inl rfl)) _).setCell (a := ⟨x, 2, none⟩) (Or.inr (Or.inl rfl)) _).setCell (a := ⟨x, 3, none⟩) (Or.inr (Or.inl rfl)) _).setCell (a := ⟨x, 4, none⟩) (Or.inr (Or.inl rfl)) _).setCell (a := ⟨x, 5, none⟩) (Or.inr (Or.inl rfl)) _
          · rcases hk with hk | hk
            · exact Or.inl (Or.inl hk)
            · rcases u3 k hk with h | h
              · exact Or.inl (Or.inr h)
              · right; have := hbB.size; omega
        have Hend := hide hend
        obtain ⟨d0, d1, d2, d3, d4, d5⟩ := inb_cells hx2
        obtain ⟨s0, s1, s2, s3⟩ := spec_cells hs2
        have f0 := found_frozen hx2 0
        have f1 := found_frozen hx2 1
        have f2 := found_frozen hx2 2
        have f3 := found_frozen hx2 3
        have f4 := found_frozen hx2 4
        have f5 := found_frozen hx2 5
        have hxs : w1.heap.size ≠ x := by omega
        subst hee
        clear hend hfx hff hT HS2 HS3 u1 u2 u3 hxn hcw
        go_wp2_with fail
        go_ret
        exact ⟨rfl, Hend.out⟩
      · obtain ⟨hT, hc⟩ := HS3.out hee
        have heb : (ee == 0) = false := beq_eq_false_iff_ne.2 hee
        have hend : ∃ hv' l', DocInbox w2 x hv' l' (takeS s t) ∧ Chg (fpI x (.slice (some ⟨g, 0, none⟩) l.length cap) l s) w w2 ∧ (∀ k, fpI x hv' l' (takeS s t) k → fpI x (.slice (some ⟨g, 0, none⟩) l.length cap) l s k ∨ w.heap.size ≤ k) := by
          rw [hT]
          have hset : s.parts.set (tP t) c2 = s.parts := by
            rw [hc]
            apply List.ext_getElem?
            intro j
            have hpp : tP t < s.parts.length := by rw [← HD.out.parts.len]; exact Hlt.out.1
            by_cases e : tP t = j
            · subst e
              rw [List.getElem?_set_self hpp, List.getD_eq_getElem?_getD, List.getElem?_eq_getElem hpp]; rfl
            · rw [List.getElem?_set_ne e]
          rw [hset] at u1 u3
          refine ⟨.slice (some ⟨g, 0, none⟩) l.length cap, l.set (tP t) ⟨(l.getD (tP t) PD.no).r, b', av', pv'⟩, ⟨hx2, u1, HD.out.nil⟩, hcw, fun k hk => ?_⟩
          rcases hk with hk | hk
          · exact Or.inl (Or.inl hk)
          · rcases u3 k hk with h | h
            · exact Or.inl (Or.inr h)
            · right; have := hbB.size; omega
        have Hend := hide hend
        clear hend hT hc HS2 HS3 u1 u2 u3 hxn hcw hee
        go_wp2_with fail
        go_ret
        exact ⟨rfl, Hend.out⟩

end Go.Proofs.YtnjaofkieajnlaaGreat

/- The document's own inbox: one part more. -/
namespace Go.Proofs.YtnjaofkieajnlaaGreat
open Go.RowKit

theorem ptrsV_append (a b : List PD) : ptrsV (a ++ b) = ptrsV a ++ ptrsV b := by unfold ptrsV; rw [List.map_append]

theorem PartsAt.snoc {w w' : World} {hv : Value} {l : List PD} {cs : List CS} (h : PartsAt w hv l cs) {d : PD} {c : CS} {g cap n : Nat} (hp : DocCat w d.r d.b d.av d.pv c) (hdj : ∀ k, d.fp c k → ¬ fpP hv l cs k) (hg : w.grownBy w' hv.ownBlock) (hown : w'.ownsRow 0 44 1 (.slice (some ⟨g, 0, none⟩) n cap) n (ptrsV (l ++ [d]))) (hl : n = l.length + 1) (hat : hv.ownBlock = some g ∨ w.heap.size ≤ g) :
    PartsAt w' (.slice (some ⟨g, 0, none⟩) n cap) (l ++ [d]) (cs ++ [c]) ∧ (∀ k, fpP (.slice (some ⟨g, 0, none⟩) n cap) (l ++ [d]) (cs ++ [c]) k → fpP hv l cs k ∨ d.fp c k ∨ w.heap.size ≤ k) := by
  subst hl
  have hkeep : ∀ k, k < w.heap.size → hv.ownBlock ≠ some k → w'.heap[k]? = w.heap[k]? := fun k hk h1 => hg.block k hk (fun e => h1 e.symm)
  refine ⟨⟨by rw [List.length_append, List.length_append, h.len]; rfl, ?_, ?_, ?_⟩, ?_⟩
  · rw [List.length_append]; exact hown
  · intro i hi
    rw [List.length_append] at hi
    rw [getD_snocA, getD_snocA, ← h.len]
    by_cases e : i < l.length
    · rw [if_pos e, if_pos e]
      exact (h.each i e).blocks (fun k hk => hkeep k ((h.each i e).lt hk) (fun x => h.list x e hk))
    · rw [if_neg e, if_neg e, if_pos (by simp at hi; omega), if_pos (by simp at hi; omega)]
      exact hp.blocks (fun k hk => hkeep k (hp.lt hk) (fun x => hdj k hk (Or.inl x)))
  · intro i j hi hj hne k hk
    rw [List.length_append] at hi hj
    rw [getD_snocA, getD_snocA, ← h.len] at hk ⊢
    simp at hi hj
    by_cases ei : i < l.length
    · rw [if_pos ei, if_pos ei] at hk
      by_cases ej : j < l.length
      · rw [if_pos ej, if_pos ej]; exact h.apart i j ei ej hne k hk
      · rw [if_neg ej, if_neg ej, if_pos (by omega), if_pos (by omega)]; exact fun hb => hdj k hb (Or.inr ⟨i, ei, hk⟩)
    · rw [if_neg ei, if_neg ei, if_pos (by omega), if_pos (by omega)] at hk
      have ej : j < l.length := by omega
      rw [if_pos ej, if_pos ej]
      exact fun h2 => hdj k hk (Or.inr ⟨j, ej, h2⟩)
  · rintro k (hk | ⟨i, hi, hf⟩)
    · have hgk : g = k := by simpa [Value.ownBlock] using hk
      subst hgk
      rcases hat with e | e
      · exact Or.inl (Or.inl e)
      · exact Or.inr (Or.inr e)
    · rw [List.length_append] at hi
      rw [getD_snocA, getD_snocA, ← h.len] at hf
      by_cases ei : i < l.length
      · rw [if_pos ei, if_pos ei] at hf; exact Or.inl (Or.inr ⟨i, ei, hf⟩)
      · rw [if_neg ei, if_neg ei, if_pos (by simp at hi; omega), if_pos (by simp at hi; omega)] at hf; exact Or.inr (Or.inl hf)

theorem PartsAt.empty (w : World) : PartsAt w (.slice none 0 0) [] [] :=
  ⟨rfl, World.ownsRow_nil _ _ _ _, fun i hi => by simp at hi, fun i j hi => by simp at hi⟩

theorem Tryz.infoPtr : (Tryz.prog.info? 44).map (fun i => (i.zero, i.size, i.bytes)) = some (some (.pointer none), 1, 8) := by kernel_rfl

/-- How long a slice is. -/
def lenP (v : Value) : Nat := match v with
  | .slice _ n _ => n
  | _ => 0

theorem replicate_getD (n p : Nat) : (List.replicate n CS.zero).getD p CS.zero = CS.zero := by
  rw [List.getD_eq_getElem?_getD, List.getElem?_replicate]
  split <;> rfl

end Go.Proofs.YtnjaofkieajnlaaGreat

/- The document's own inbox: Take of the first sheet, and Take whole. -/
namespace Go.Proofs.YtnjaofkieajnlaaGreat
open Go.RowKit

set_option maxRecDepth 100000 in
set_option maxHeartbeats 8000000 in
theorem rtake_first (x : Nat) (hv : Value) (l : List PD) (s : IS) (t : ByteArray) (w : World) (hd : DocInbox w x hv l s) (h : headOk t) (hp : PacketOk (tQ t)) (hnil : s.parts = []) :
    Calls Tryz.prog 39 #[.pointer (some ⟨x, 0, none⟩), .string t] w fun e w' => e = .returned (.int .i64 (takeE s t)) ∧ ∃ hv' l', DocInbox w' x hv' l' (takeS s t) ∧ Chg (fpI x hv l s) w w' ∧ (∀ k, fpI x hv' l' (takeS s t) k → fpI x hv l s k ∨ w.heap.size ≤ k) := by
  have hbd : ∀ n, Below w.heap.size w (w.drewN n) := fun n => ⟨rfl, rfl, rfl, Nat.le_refl _, fun _ _ => rfl⟩
  have hrd := rread_ok (tQ t) hp
  have hhv := hd.nil hnil
  have hl : l = [] := List.eq_nil_of_length_eq_zero (by rw [hd.parts.len, hnil]; rfl)
  subst hhv hl
  have hpo : partsOf s t = List.replicate (tN t) CS.zero := by unfold partsOf; rw [if_pos hnil]
  have he := takeE_main h hp (Or.inl hnil)
  have hS : takeS s t = if takeE s t = 0 then ⟨rK (tQ t), rM (tQ t), rO (tQ t), rS (tQ t), rZ (tQ t), (partsOf s t).set (tP t) (hearS ((partsOf s t).getD (tP t) CS.zero) (tQ t))⟩ else s := rfl
  rw [hpo, replicate_getD] at he hS
  obtain ⟨h4, e0, n1, n2, n3⟩ := h
  have hhr := fun (W : World) (r : Nat) (hdc : DocCat W r 0 (.slice none 0 0) (.slice none 0 0) CS.zero) => rhear_any r 0 (.slice none 0 0) (.slice none 0 0) CS.zero (tQ t) W hdc CSok.new
  have hS2 : hearE CS.zero (tQ t) = 0 → takeS s t = ⟨rK (tQ t), rM (tQ t), rO (tQ t), rS (tQ t), rZ (tQ t), (List.replicate (tN t) CS.zero).set (tP t) (hearS CS.zero (tQ t))⟩ := fun e => by rw [hS, he, if_pos e]
  have hS3 : hearE CS.zero (tQ t) ≠ 0 → takeS s t = s := fun e => by rw [hS, he, if_neg e]
  rw [he]
  unfold ReadSays at hrd
  have htq : tQ t = t.extract 3 t.size := rfl
  rw [htq] at hrd hhr hS2 hS3 ⊢
  obtain ⟨ee, hee⟩ : ∃ ee, ee = hearE CS.zero (t.extract 3 t.size) := ⟨_, rfl⟩
  obtain ⟨c2, hc2⟩ : ∃ c2, c2 = hearS CS.zero (t.extract 3 t.size) := ⟨_, rfl⟩
  rw [← hee] at hhr hS2 hS3 ⊢
  rw [← hc2] at hhr hS2
  generalize rK (t.extract 3 t.size) = K at *
  generalize rM (t.extract 3 t.size) = M at *
  generalize rO (t.extract 3 t.size) = O at *
  generalize rS (t.extract 3 t.size) = S at *
  generalize rZ (t.extract 3 t.size) = z at *
  generalize rI (t.extract 3 t.size) = i at *
  generalize rQ (t.extract 3 t.size) = q at *
  have HS2 := hide hS2
  have HS3 := hide hS3
  have g0 := byteAt_get t 0 (by omega)
  have g1 := byteAt_get t 1 (by omega)
  have g2 := byteAt_get t 2 (by omega)
  have b1 := (byteAt t 1).toNat_lt
  have b2 := (byteAt t 2).toNat_lt
  have i0 : (0 : Int) < (t.size : Int) := by omega
  have i1 : (1 : Int) < (t.size : Int) := by omega
  have i2 : (2 : Int) < (t.size : Int) := by omega
  have i3 : (3 : Int) ≤ (t.size : Int) := by omega
  have l4 : ¬ (t.size : Int) < 4 := by omega
  have h1 : (((byteAt t 0).toNat : Int) != 83) = false := by rw [e0]; rfl
  have htn : (byteAt t 2).toNat = tN t := rfl
  have htp : (byteAt t 1).toNat = tP t := rfl
  have h2 : ¬ ((byteAt t 2).toNat : Int) < 1 := by omega
  have h3 : ¬ (20 : Int) < ((byteAt t 2).toNat : Int) := by omega
  have h5 : ¬ ((byteAt t 2).toNat : Int) ≤ ((byteAt t 1).toNat : Int) := by omega
  have HD := hide hd
  have HN := hide (And.intro htn (And.intro htp (And.intro n1 (And.intro n2 n3))))
  have Hnil := hide hnil
  obtain ⟨j0, gi, gz0, gz1, gz2⟩ := info_parts Tryz.infoPtr
  clear hp e0 n1 n2 n3 htq hd he hS hS2 hS3 hee hc2 hpo hnil htn htp
  go_enter Tryz.func39, Tryz.ntmps39
  go_upto_region 1 with fail
  go_cut [37] (fun s37 wc => s37 = .bool false ∧ ∃ n, wc = w.drewN n)
  case first =>
    go_quiet (fail)
    go_wp2_with fail
    go_meet
    case rel => exact ⟨rfl, _, rfl⟩
  case rest =>
  obtain ⟨rfl, nq, rfl⟩ := hcut
  have hbq := hbd nq
  generalize w.drewN nq = V at *
  clear hbd g0 h1 h2 h3 h5
  go_wp2_with fail
  refine (hrd _).mono ?_
  rintro e w1 ⟨rfl, hb1⟩
  have hbw1 := hbq.trans (hb1.mono hbq.size)
  clear hrd hb1 hbq
  have hbA : Below w.heap.size w (w1.alloc (specB K M O S)) := hbw1.alloc hbw1.size _
  have hsA : (w1.alloc (specB K M O S)).heap[w1.heap.size]? = some (specB K M O S) := heap_alloc_new w1 _
  have hdA := HD.out.on hbA
  obtain ⟨d0, d1, d2, d3, d4, d5⟩ := inb_cells hdA.box
  have hwb := hbw1.size
  generalize hln2 : (byteAt t 2).toNat = ln at *
  go_upto_region 8 with fail
  have Hln2 := hide hln2
  clear hln2 g2
  generalize w1.alloc (specB K M O S) = W at *
  go_cut [80] (fun s80 wc => s80 = .bool false ∧ ∃ n, wc = W.drewN n)
  case first =>
    go_quiet (fail)
    go_wp2_with fail
    go_meet
    case rel => exact ⟨rfl, _, rfl⟩
  case rest =>
  obtain ⟨rfl, nq2, rfl⟩ := hcut
  have hdB : DocInbox (W.drewN nq2) x (.slice none 0 0) [] s := hdA.blocks (fun k _ => rfl)
  have hbB : Below w.heap.size w (W.drewN nq2) := hbA.trans ⟨rfl, rfl, rfl, Nat.le_refl _, fun _ _ => rfl⟩
  have hsB : (W.drewN nq2).heap[w1.heap.size]? = some (specB K M O S) := hsA
  generalize W.drewN nq2 = U at *
  clear d0 d1 d2 d3 d4 d5 hdA hbA hsA
  have hl20 : ln ≤ 20 := by have := HN.out.2.2.2.1; have := HN.out.1; omega
  go_wp2_with fail
  go_loopw [11] (fun hv11 wr => ∃ (m : Nat) (lm : List PD), m ≤ ln ∧ lm.length = m ∧ (∃ ao cap, hv11 = .slice ao m cap) ∧ PartsAt wr hv11 lm (List.replicate m CS.zero) ∧ (∀ j, j < m → (lm.getD j PD.no).b = 0 ∧ (lm.getD j PD.no).av = .slice none 0 0 ∧ (lm.getD j PD.no).pv = .slice none 0 0) ∧ (∀ k, fpP hv11 lm (List.replicate m CS.zero) k → U.heap.size ≤ k) ∧ Below U.heap.size U wr) (fun a _ => ln - lenP a)
  case atStart => exact ⟨0, [], Nat.zero_le _, rfl, ⟨none, 0, rfl⟩, PartsAt.empty _, fun j hj => absurd hj (Nat.not_lt_zero _), fun k hk => by
      rcases hk with hk | ⟨j, hj, _⟩
      · simp [Value.ownBlock] at hk
      · simp at hj, Below.refl _ _⟩
  case round =>
    obtain ⟨m, lm, hm, hlm, ⟨ao, cap, rfl⟩, hpa, hpd, hpn, hbr⟩ := hrel
    by_cases hlt : m < ln
    · have i6 : (m : Int) < (ln : Int) := by omega
      have hown := hpa.own
      rw [hlm] at hown
      have hbR := (Below.refl wr.heap.size wr).alloc (Nat.le_refl _) (catB none)
      have hpaR := hpa.on hbR
      have hdoc : DocCat (wr.alloc (catB none)) wr.heap.size 0 (.slice none 0 0) (.slice none 0 0) CS.zero := ⟨fun _ => heap_alloc_new wr _, fun h => (by cases h), fun h => (by cases h), fun h => (by cases h)⟩
      have hszU := hbr.size
      have hfin : ∀ g cap' w3, w3.ownsRow 0 44 1 (.slice (some ⟨g, 0, none⟩) (m + 1) cap') (m + 1) (ptrsV lm ++ [.pointer (some ⟨wr.heap.size, 0, none⟩)]) → (wr.alloc (catB none)).grownBy w3 (Value.slice ao m cap).ownBlock → ((Value.slice ao m cap).ownBlock = some g ∨ g = wr.heap.size + 1 + 1) →
          ∃ (m' : Nat) (lm' : List PD), m' ≤ ln ∧ lm'.length = m' ∧ (∃ ao' cap'', (Value.slice (some ⟨g, 0, none⟩) (m + 1) cap') = .slice ao' m' cap'') ∧ PartsAt w3 (.slice (some ⟨g, 0, none⟩) (m + 1) cap') lm' (List.replicate m' CS.zero) ∧ (∀ j, j < m' → (lm'.getD j PD.no).b = 0 ∧ (lm'.getD j PD.no).av = .slice none 0 0 ∧ (lm'.getD j PD.no).pv = .slice none 0 0) ∧ (∀ k, fpP (.slice (some ⟨g, 0, none⟩) (m + 1) cap') lm' (List.replicate m' CS.zero) k → U.heap.size ≤ k) ∧ Below U.heap.size U w3 := fun g cap' w3 ho hgr ha => by
        have hszR : (wr.alloc (catB none)).heap.size = wr.heap.size + 1 := by simp
        have hfpd : ∀ k, (PD.mk wr.heap.size 0 (.slice none 0 0) (.slice none 0 0)).fp CS.zero k → k = wr.heap.size := fun k hk => by
          rcases hk with hk | ⟨hk, _⟩
          · exact hk
          · cases hk
        obtain ⟨u1, u2⟩ := hpaR.snoc (d := ⟨wr.heap.size, 0, .slice none 0 0, .slice none 0 0⟩) (c := CS.zero) (g := g) (cap := cap') hdoc (fun k hk hk2 => by
          have := hfpd k hk
          have := hpa.lt hk2
          omega) hgr (by rw [ptrsV_append]; exact ho) (by rw [hlm]) (by rcases ha with e | e; exact Or.inl e; right; rw [hszR]; omega)
        have hrep : List.replicate m CS.zero ++ [CS.zero] = List.replicate (m + 1) CS.zero := by rw [List.replicate_succ']
        rw [hrep] at u1 u2
        refine ⟨m + 1, lm ++ [⟨wr.heap.size, 0, .slice none 0 0, .slice none 0 0⟩], by omega, by rw [List.length_append, hlm]; rfl, ⟨_, _, rfl⟩, u1, fun j hj => ?_, fun k hk => ?_, ?_⟩
        · rw [getD_snocA]
          by_cases e : j < lm.length
          · rw [if_pos e]; exact hpd j (by omega)
          · rw [if_neg e, if_pos (by omega)]; exact ⟨rfl, rfl, rfl⟩
        · rcases u2 k hk with h | h | h
          · exact hpn k h
          · have := hfpd k h; omega
          · rw [hszR] at h; omega
        · have hb1 : Below U.heap.size U (wr.alloc (catB none)) := hbr.alloc hbr.size _
          exact hb1.grown hgr hb1.size (fun k e => hpn k (Or.inl e))
      have HF := hide hfin
      clear hfin hdoc hpaR hbR hpa hpd
      go_wp2_with (at_builtin; refine wpList_append_lies _ rfl (.tmp 85) (.tmp 88) 53 rfl 0 44 j0 (.pointer none) 1 8 Tryz.underlying53 gi gz0 gz1 gz2 rfl (by decide) _ _ _ rfl ((hown.alloc _).alloc _) ⟨wr.heap.size + 1, 0, none⟩ 1 1 [.pointer (some ⟨wr.heap.size, 0, none⟩)] rfl rfl (World.news_of_block (cs := #[_]) (heap_alloc2p wr _ _)) (one_oneCell rfl) (by decide) (by unfold maxLen; omega) (by omega) (Nat.zero_le _) (wr.heap.size + 1 + 1) (by simp) ?_)
      intro g5 cap5 w5 hown5 hgr5 hat5 hlt5
      have hend := HF.out g5 cap5 w5 hown5 (grownBy_of_alloc hgr5) hat5
      clear HF hown hown5 hgr5 hat5 hpn hbr
      go_wp2_with fail
      go_roundw
      case rel => exact hend
      case measure => simp [lenP]; omega
    · have i5 : ¬ (m : Int) < (ln : Int) := by omega
      have htn : tN t = m := by have := HN.out.1; omega
      have hpt : tP t < lm.length := by have := HN.out.2.2.2.2; omega
      obtain ⟨g, cap', hve, hg, cp⟩ := hpa.cell hpt
      simp only [Value.slice.injEq] at hve
      obtain ⟨rfl, hml, rfl⟩ := hve
      clear hml
      obtain ⟨e1, e2, e3⟩ := hpd (tP t) (by omega)
      have hdc0 := hpa.each (tP t) hpt
      have hfp0 : (lm.getD (tP t) PD.no).fp ((List.replicate m CS.zero).getD (tP t) CS.zero) = fpD (lm.getD (tP t) PD.no).r 0 (.slice none 0 0) (.slice none 0 0) CS.zero := by
        unfold PD.fp
        rw [replicate_getD, e1, e2, e3]
      rw [replicate_getD, e1, e2, e3] at hdc0
      have cp2 : wr.cell? ⟨g, (byteAt t 1).toNat, none⟩ = some (.pointer (some ⟨(lm.getD (tP t) PD.no).r, 0, none⟩)) := by rw [HN.out.2.1]; exact cp
      have i6 : ((byteAt t 1).toNat : Int) < (m : Int) := by have := HN.out.2.1; omega
      have i7 : (0 : Int) ≤ ((byteAt t 1).toNat : Int) := by omega
      have hdcD : DocCat wr.drew (lm.getD (tP t) PD.no).r 0 (.slice none 0 0) (.slice none 0 0) CS.zero := hdc0.blocks (fun k _ => rfl)
      have hgn := hpa.list (k := g) rfl hpt
      rw [hfp0] at hgn
      have hfl : ∀ k, fpD (lm.getD (tP t) PD.no).r 0 (.slice none 0 0) (.slice none 0 0) CS.zero k → U.heap.size ≤ k := fun k hk => hpn k (Or.inr ⟨tP t, hpt, by rw [hfp0]; exact hk⟩)
      have hsl : w1.heap.size < U.heap.size := (Array.getElem?_eq_some_iff.1 hsB).1
      have hUw := hbB.size
      have hUr := hbr.size
      have Htn := hide (And.intro htn hpt)
      have Hfp := hide hfp0
      clear cp e1 e2 e3 hfp0 htn hpt hlt hlm hpd
      go_upto_region 12 with fail
      go_region_held3 (fun w' => w'.cell? ⟨g, (byteAt t 1).toNat, none⟩ = some (.pointer (some ⟨(lm.getD (tP t) PD.no).r, 0, none⟩)))
        (first | (exact cp2) | (exact j1) | go_keep)
        (first
          | (go_at_call 33; refine (hhr _ (lm.getD (tP t) PD.no).r (by first | exact hdcD | exact hdc0)).mono ?_; rintro e w2 ⟨rfl, b', av', pv', hdc2, hcg2, hnew2⟩; have j1 := (hcg2.cell (a := ⟨g, (byteAt t 1).toNat, none⟩) hg hgn).trans cp2))
      all_goals
        have hcg3 : Chg ((lm.getD (tP t) PD.no).fp ((List.replicate m CS.zero).getD (tP t) CS.zero)) wr w2 := by rw [Hfp.out]; exact ⟨hcg2.os, hcg2.tape, hcg2.output, hcg2.size, hcg2.block⟩
        obtain ⟨u1, u2, u3⟩ := hpa.update Htn.out.2 (d := ⟨(lm.getD (tP t) PD.no).r, b', av', pv'⟩) (c := c2) hcg3 hdc2 rfl (fun k hk => by rw [Hfp.out]; exact hnew2 k hk)
        have hbw : Below w.heap.size w wr := hbB.trans (hbr.mono hUw)
        have hbw2 : Below w.heap.size w w2 := chg_under hbw hcg3 (fun k hk => by rw [Hfp.out] at hk; have := hfl k hk; omega)
        have hs2 : w2.heap[w1.heap.size]? = some (specB K M O S) := by
          rw [hcg3.block _ (by omega) (fun hk => by rw [Hfp.out] at hk; have := hfl _ hk; omega), hbr.block _ hsl]; exact hsB
        have hx2 := block_on HD.out.box hbw2
        have hxw := HD.out.xlt
        have hnw : ∀ k, fpP (.slice (some ⟨g, 0, none⟩) m cap) (lm.set (tP t) ⟨(lm.getD (tP t) PD.no).r, b', av', pv'⟩) ((List.replicate m CS.zero).set (tP t) c2) k → w.heap.size ≤ k := fun k hk => by
          rcases u3 k hk with h | h
          · have := hpn k h; omega
          · omega
        have hxn : ¬ fpP (.slice (some ⟨g, 0, none⟩) m cap) (lm.set (tP t) ⟨(lm.getD (tP t) PD.no).r, b', av', pv'⟩) ((List.replicate m CS.zero).set (tP t) c2) x := fun hk => by
          have := hnw x hk
          omega
        clear hhr hdc0 hdcD hdc2 hcg2 hcg3 hnew2 j1 cp2 hgn hbw u2 u3
        by_cases hee : ee = 0
        · have hT := HS2.out hee
          have hfx := inb_store hx2 (.int .i64 (K : Int)) (.int .i64 (M : Int)) (.int .i64 (O : Int)) (.int .i64 (S : Int)) (.int .i64 (z : Int)) (.slice (some ⟨g, 0, none⟩) m cap)
          have hff := set6_far w2 x (.int .i64 (K : Int)) (.int .i64 (M : Int)) (.int .i64 (O : Int)) (.int .i64 (S : Int)) (.int .i64 (z : Int)) (.slice (some ⟨g, 0, none⟩) m cap)
          have hend : ∃ hv' l', DocInbox ((((((w2.setCell ⟨x, 0, none⟩ (.int .i64 (K : Int))).setCell ⟨x, 1, none⟩ (.int .i64 (M : Int))).setCell ⟨x, 2, none⟩ (.int .i64 (O : Int))).setCell ⟨x, 3, none⟩ (.int .i64 (S : Int))).setCell ⟨x, 4, none⟩ (.int .i64 (z : Int))).setCell ⟨x, 5, none⟩ (.slice (some ⟨g, 0, none⟩) m cap)) x hv' l' (takeS s t) ∧ Chg (fpI x (.slice none 0 0) [] s) w ((((((w2.setCell ⟨x, 0, none⟩ (.int .i64 (K : Int))).setCell ⟨x, 1, none⟩ (.int .i64 (M : Int))).setCell ⟨x, 2, none⟩ (.int .i64 (O : Int))).setCell ⟨x, 3, none⟩ (.int .i64 (S : Int))).setCell ⟨x, 4, none⟩ (.int .i64 (z : Int))).setCell ⟨x, 5, none⟩ (.slice (some ⟨g, 0, none⟩) m cap)) ∧ (∀ k, fpI x hv' l' (takeS s t) k → fpI x (.slice none 0 0) [] s k ∨ w.heap.size ≤ k) := by
            rw [hT, Htn.out.1]
            refine ⟨.slice (some ⟨g, 0, none⟩) m cap, lm.set (tP t) ⟨(lm.getD (tP t) PD.no).r, b', av', pv'⟩, ⟨hfx, u1.blocks (fun k hk => hff k (fun e => hxn (e ▸ hk))), fun e => ?_⟩, ?_, fun k hk => ?_⟩
            · have hq := congrArg List.length (show (List.replicate m CS.zero).set (tP t) c2 = [] from e)
              rw [List.length_set, List.length_replicate] at hq
              have hq2 : m = 0 := hq
              have := HN.out.2.2.1
              have := Htn.out.1
              omega
            · exact ((((((Chg.of_below hbw2 (fpI x (.slice none 0 0) [] s)).setCell (a := ⟨x, 0, none⟩) (Or.inr (Or.inl rfl)) _).setCell (a := ⟨x, 1, none⟩) (Or.inr (Or.inl rfl)) _).setCell (a := ⟨x, 2, none⟩) (Or.inr (Or.inl rfl)) _).setCell (a := ⟨x, 3, none⟩) (Or.inr (Or.inl rfl)) _).setCell (a := ⟨x, 4, none⟩) (Or.inr (Or.inl rfl)) _).setCell (a := ⟨x, 5, none⟩) (Or.inr (Or.inl rfl)) _
            · rcases hk with hk | hk
              · exact Or.inl (Or.inl hk)
              · exact Or.inr (hnw k hk)
          have Hend := hide hend
          obtain ⟨d0, d1, d2, d3, d4, d5⟩ := inb_cells hx2
          obtain ⟨s0, s1, s2, s3⟩ := spec_cells hs2
          have f0 := found_frozen hx2 0
          have f1 := found_frozen hx2 1
          have f2 := found_frozen hx2 2
          have f3 := found_frozen hx2 3
          have f4 := found_frozen hx2 4
          have f5 := found_frozen hx2 5
          have hxs : w1.heap.size ≠ x := by omega
          subst hee
          clear hend hfx hff hT HS2 HS3 u1 hxn hnw hpa hpn hfl hbr hbB hdB hsB hs2 hx2 hbw2
          go_wp2_with fail
          go_ret
          exact ⟨rfl, Hend.out⟩
        · have hT := HS3.out hee
          have heb : (ee == 0) = false := beq_eq_false_iff_ne.2 hee
          have hend : ∃ hv' l', DocInbox w2 x hv' l' (takeS s t) ∧ Chg (fpI x (.slice none 0 0) [] s) w w2 ∧ (∀ k, fpI x hv' l' (takeS s t) k → fpI x (.slice none 0 0) [] s k ∨ w.heap.size ≤ k) := by
            rw [hT]
            exact ⟨.slice none 0 0, [], HD.out.on hbw2, Chg.of_below hbw2 _, fun k hk => Or.inl hk⟩
          have Hend := hide hend
          clear hend hT HS2 HS3 u1 hxn hnw hee hpa hpn hfl hbr
          go_wp2_with fail
          go_ret
          exact ⟨rfl, Hend.out⟩

/-- What Take answers, whatever the text. -/
theorem rtake_any (x : Nat) (hv : Value) (l : List PD) (s : IS) (t : ByteArray) (w : World) (hd : DocInbox w x hv l s) (hs : ISok s) :
    Calls Tryz.prog 39 #[.pointer (some ⟨x, 0, none⟩), .string t] w fun e w' => e = .returned (.int .i64 (takeE s t)) ∧ ∃ hv' l', DocInbox w' x hv' l' (takeS s t) ∧ Chg (fpI x hv l s) w w' ∧ (∀ k, fpI x hv' l' (takeS s t) k → fpI x hv l s k ∨ w.heap.size ≤ k) := by
  have hkeep : ∀ n, takeE s t = n → n ≠ 0 → ∀ w', Below w.heap.size w w' → ∃ hv' l', DocInbox w' x hv' l' (takeS s t) ∧ Chg (fpI x hv l s) w w' ∧ (∀ k, fpI x hv' l' (takeS s t) k → fpI x hv l s k ∨ w.heap.size ≤ k) := fun n hn h0 w' hb => by
    have hS : takeS s t = s := by unfold takeS; rw [hn, if_neg h0]
    rw [hS]
    exact ⟨hv, l, hd.on hb, Chg.of_below hb _, fun k hk => Or.inl hk⟩
  by_cases hh : headOk t
  · by_cases hp : PacketOk (tQ t)
    · by_cases hn : s.parts = []
      · exact rtake_first x hv l s t w hd hh hp hn
      · by_cases hsm : rK (tQ t) = s.K ∧ rM (tQ t) = s.M ∧ rO (tQ t) = s.O ∧ rS (tQ t) = s.S ∧ rZ (tQ t) = s.z ∧ tN t = s.parts.length
        · exact rtake_next x hv l s t w hd hs hh hp hn hsm
        · have he : takeE s t = 7 := by
            unfold takeE
            rw [if_neg (fun y => by
              rcases y with y | y
              · rw [(headSb_iff t).2 hh] at y; cases y
              · rw [(packetB_iff _).2 hp] at y; cases y), if_pos ⟨hn, by
              cases hy : sameI s t with
              | false => rfl
              | true => exact absurd ((sameI_iff s t).1 hy) hsm⟩]
          exact (rtake_other x hv l s t w hd hh hp hn hsm).mono fun e w' ⟨h1, h2⟩ => ⟨by rw [he]; exact h1, hkeep 7 he (by decide) w' h2⟩
    · have he : takeE s t = 6 := by
        unfold takeE
        rw [if_pos (Or.inr (by
          cases hy : packetB (tQ t) with
          | false => rfl
          | true => exact absurd ((packetB_iff _).1 hy) hp))]
      exact (rtake_nopacket _ t w hh hp).mono fun e w' ⟨h1, h2⟩ => ⟨by rw [he]; exact h1, hkeep 6 he (by decide) w' h2⟩
  · have he : takeE s t = 6 := by
      unfold takeE
      rw [if_pos (Or.inl (by
        cases hy : headSb t with
        | false => rfl
        | true => exact absurd ((headSb_iff t).1 hy) hh))]
    exact (rtake_head _ t w hh).mono fun e w' ⟨h1, h2⟩ => ⟨by rw [he]; exact h1, hkeep 6 he (by decide) w' h2⟩

end Go.Proofs.YtnjaofkieajnlaaGreat
