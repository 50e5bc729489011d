/- The document's own Need. -/
import Derived.Test.YtnjaofkieajnlaaGreatRBox3
namespace Go.Proofs.YtnjaofkieajnlaaGreat
open Go.RowKit

/-- The pieces of the copy that Need fills, ahead of place i. -/
def needPs (K M O S z : Nat) (ps : List (Nat × ByteArray)) : Nat → List (Nat × ByteArray)
  | 0 => ps
  | i + 1 => if (told (boxFacts K M O S z (needPs K M O S z ps i)) (2 ^ i) z).2 then needPs K M O S z ps i else needPs K M O S z ps i ++ [(i, zeroB z)]

theorem boxFacts_snoc (K M O S z : Nat) (ps : List (Nat × ByteArray)) (i : Nat) (t : ByteArray) : boxFacts K M O S z (ps ++ [(i, t)]) = boxFacts K M O S z ps ++ [(2 ^ i, t)] := by
  unfold boxFacts putFacts
  rw [List.map_append, ← List.append_assoc]; rfl

theorem needPs_facts (K M O S z : Nat) (ps : List (Nat × ByteArray)) (i : Nat) : (needTo (boxFacts K M O S z ps) z i).1 = boxFacts K M O S z (needPs K M O S z ps i) := by
  induction i with
  | zero => rfl
  | succ i ih =>
    show (if (told (needTo (boxFacts K M O S z ps) z i).1 (2 ^ i) z).2 = true then needTo (boxFacts K M O S z ps) z i else ((needTo (boxFacts K M O S z ps) z i).1 ++ [(2 ^ i, zeroB z)], (needTo (boxFacts K M O S z ps) z i).2 + 1)).1 = boxFacts K M O S z (if (told (boxFacts K M O S z (needPs K M O S z ps i)) (2 ^ i) z).2 = true then needPs K M O S z ps i else needPs K M O S z ps i ++ [(i, zeroB z)])
    rw [ih]
    split
    · exact ih
    · rw [boxFacts_snoc]

theorem needTo_succ (K M O S z : Nat) (ps : List (Nat × ByteArray)) (i : Nat) : (needTo (boxFacts K M O S z ps) z (i + 1)).2 = if (told (boxFacts K M O S z (needPs K M O S z ps i)) (2 ^ i) z).2 = true then (needTo (boxFacts K M O S z ps) z i).2 else (needTo (boxFacts K M O S z ps) z i).2 + 1 := by
  show (if (told (needTo (boxFacts K M O S z ps) z i).1 (2 ^ i) z).2 = true then needTo (boxFacts K M O S z ps) z i else ((needTo (boxFacts K M O S z ps) z i).1 ++ [(2 ^ i, zeroB z)], (needTo (boxFacts K M O S z ps) z i).2 + 1)).2 = _
  rw [needPs_facts]
  split <;> rfl

theorem needTo_le (F : List Fct) (z i : Nat) : (needTo F z i).2 ≤ i := by
  induction i with
  | zero => exact Nat.le_refl _
  | succ i ih =>
    show (if (told (needTo F z i).1 (2 ^ i) z).2 = true then needTo F z i else ((needTo F z i).1 ++ [(2 ^ i, zeroB z)], (needTo F z i).2 + 1)).2 ≤ i + 1
    split
    · omega
    · show (needTo F z i).2 + 1 ≤ i + 1; omega

theorem needPs_len (K M O S z : Nat) (ps : List (Nat × ByteArray)) (i : Nat) : (needPs K M O S z ps i).length ≤ ps.length + i := by
  induction i with
  | zero => exact Nat.le_refl _
  | succ i ih =>
    show (if _ then needPs K M O S z ps i else needPs K M O S z ps i ++ [(i, zeroB z)]).length ≤ _
    split
    · omega
    · rw [List.length_append]; simp; omega

theorem needPs_in (K M O S z : Nat) (ps : List (Nat × ByteArray)) (h : ∀ x ∈ ps, x.1 < K + M ∧ x.2.size = z) (i : Nat) (hi : i ≤ K + M) : ∀ x ∈ needPs K M O S z ps i, x.1 < K + M ∧ x.2.size = z := by
  induction i with
  | zero => exact h
  | succ i ih =>
    intro x hx
    have hx' : x ∈ (if (told (boxFacts K M O S z (needPs K M O S z ps i)) (2 ^ i) z).2 = true then needPs K M O S z ps i else needPs K M O S z ps i ++ [(i, zeroB z)]) := hx
    split at hx'
    · exact ih (by omega) x hx'
    · rcases List.mem_append.1 hx' with hx' | hx'
      · exact ih (by omega) x hx'
      · simp at hx'; subst hx'; exact ⟨by show i < K + M; omega, zeroB_size z⟩

/-- Where Need stands: the copy in block c, all its blocks new; the box itself is as it was. -/
structure NeedAt (w wr : World) (c K M O S z : Nat) (cv dv : Value) (qs : List (Nat × ByteArray)) : Prop where
  mine : RBoxAt wr c K M O S z cv dv qs
  new : ∀ k, fpR c cv dv k → w.heap.size ≤ k
  below : Below w.heap.size w wr

theorem NeedAt.on {w wr w' : World} {c K M O S z : Nat} {cv dv : Value} {qs : List (Nat × ByteArray)} (h : NeedAt w wr c K M O S z cv dv qs) (hb : Below wr.heap.size wr w') : NeedAt w w' c K M O S z cv dv qs :=
  ⟨h.mine.on (Nat.le_refl _) hb, h.new, h.below.trans (hb.mono h.below.size)⟩

end Go.Proofs.YtnjaofkieajnlaaGreat

namespace Go.Proofs.YtnjaofkieajnlaaGreat
open Go.RowKit

theorem owns_news {w : World} {base : Nat} {e : TypeId} {g n cap : Nat} {xs : List Value} (h : w.ownsRow base e 1 (.slice (some ⟨g, 0, none⟩) n cap) n xs) : ∀ j u, xs[j]? = some u → w.cell? ((⟨g, 0, none⟩ : Addr).add j) = some u := by
  intro j u hu
  rw [Addr.add_mid, Nat.zero_add]
  rcases h.2 with ⟨h0, _⟩ | ⟨g', cap', cur, he, _, hg, hc, _, _, ht⟩
  · cases h0
  · have : g' = g := by simp at he; exact he.1.symm
    subst this
    rw [cell_of_row _ _ _ _ _ _ hg]
    rw [← ht, List.getElem?_take] at hu
    split at hu
    · simpa using hu
    · cases hu

/-- A call that leaves the world as it was, at a step of a region that draws its order. -/
theorem step_call {P : Program} {w : World} {ops : Array Oper} {o : Oper} {a : Act} {K : Act → World → Prop} {Q : Exit → Act → World → Prop} {E : Prop} (hgd : o.guard = none) (f : FuncId) (args : Array Value) (hrun : (execOp a.eval o).run P w = .ok (.enter f args) w) (v : Value)
    (hc : Calls P f args w fun e w' => e = .returned v ∧ w' = w) (h : K (a.put o.dst v) w) : if Region.wanted o (yielded ops a.tmps) = true then Oper.wp P o a w K Q else E := by
  have hw : Region.wanted o (yielded ops a.tmps) = true := by simp [Region.wanted, hgd]
  rw [if_pos hw]
  unfold Oper.wp
  rw [hrun, Oper.upon_enter]
  refine hc.mono fun e w'' hh => ?_
  obtain ⟨rfl, rfl⟩ := hh
  exact h

set_option maxRecDepth 100000 in
set_option maxHeartbeats 8000000 in
theorem rneed_any (r K M O S z : Nat) (av pv : Value) (ps : List (Nat × ByteArray)) (w : World) (hK : 1 ≤ K ∧ K ≤ 20) (hM : 1 ≤ M ∧ M ≤ 20) (hO : 1 ≤ O ∧ O ≤ M) (hS : S ≤ 65535) (hz : 0 < z ∧ z ≤ 1000)
    (hbox : RBoxAt w r K M O S z av pv ps) (hps : ps.length ≤ 800) (hin : ∀ x ∈ ps, x.1 < K + M ∧ x.2.size = z) (hnil : ps.length = 0 → av = .slice none 0 0 ∧ pv = .slice none 0 0) :
    Calls Tryz.prog 29 #[.pointer (some ⟨r, 0, none⟩)] w fun e w' => e = .returned (.int .i64 ((needTo (boxFacts K M O S z ps) z (K + M)).2 : Int)) ∧ Below w.heap.size w w' := by
  obtain ⟨c0, c1, c2, c3, c4, c5, c6, hr⟩ := rbox_cells hbox.box
  obtain ⟨i0, hii, hz0, hz1, hz2⟩ := info_parts Tryz.infoInt
  obtain ⟨j0, gi, gz0, gz1, gz2⟩ := info_parts Tryz.infoText
  go_enter Tryz.func29, Tryz.ntmps29
  go_wp2_with fail
  go_region
  all_goals
    have hb1 : Below w.heap.size w (w.alloc (rboxB K M O S z (.slice none 0 0) (.slice none 0 0))).drew := ((Below.refl _ _).alloc (Nat.le_refl _) _).drew
    have hc1 : RBoxAt (w.alloc (rboxB K M O S z (.slice none 0 0) (.slice none 0 0))).drew w.heap.size K M O S z (.slice none 0 0) (.slice none 0 0) [] := ⟨heap_alloc_new w _, World.ownsRow_nil _ _ _ _, World.ownsRow_nil _ _ _ _⟩
    have hbx := hbox.on (Nat.le_refl _) hb1
    generalize (w.alloc (rboxB K M O S z (.slice none 0 0) (.slice none 0 0))).drew = W1 at *
    obtain ⟨d0, d1, d2, d3, d4, d5, d6, hc⟩ := rbox_cells hc1.box
    have z5 := found_frozen hc1.box 5
    clear c0 c1 c2 c3 c4 c5 c6
    obtain ⟨c0, c1, c2, c3, c4, c5, c6, hr1⟩ := rbox_cells hbx.box
    go_upto_region 2 with fail
    go_cut [] (fun wc => ∃ cv, wc.heap[w.heap.size]? = some (rboxB K M O S z cv (.slice none 0 0)) ∧ wc.ownsRow 0 3 1 cv ps.length (numsV (ps.map Prod.fst)) ∧ (∀ k, cv.ownBlock = some k → w.heap.size ≤ k) ∧ Below w.heap.size w wc)
    case first =>
      by_cases hne : 0 < ps.length
      · obtain ⟨ga, ca, rfl, hga, hgal⟩ := hbx.oa.form hne
        have hnw := owns_news hbx.oa
        have hnl : (numsV (ps.map Prod.fst)).length = ps.length * 1 := by simp [numsV]
        have hn1 : ∀ u ∈ numsV (ps.map Prod.fst), u.oneCell' = true := fun u hu => by
          unfold numsV at hu
          obtain ⟨x, _, rfl⟩ := List.mem_map.1 hu
          rfl
        go_wp2_with fail
        go_region_law ((refine step_append_lies _ (by rfl) (.tmp 22) (.tmp 26) 63 (by rfl) w.heap.size 3 i0 (.int .i64 0) 1 8 Tryz.underlying63 hii hz0 hz1 hz2 rfl (by decide) _ 0 [] (by rfl) (World.ownsRow_nil _ _ _ _) ⟨ga, 0, none⟩ ps.length ca (numsV (ps.map Prod.fst)) (by rfl) hnl hnw hn1 hne (by unfold maxLen; omega) (by omega) (Nat.le_of_lt hc) W1.heap.size rfl ?_; intro gg cap2 w2 hown2 hgr2 hat2 hlt2; have q0 := (hgr2.cell_far ⟨w.heap.size, 5, none⟩ hc (by simp [Value.ownBlock])).trans d5; have q2 := (hgr2.frozen_far ⟨w.heap.size, 5, none⟩ hc (by simp [Value.ownBlock])).trans z5))
        all_goals
          have hgr : W1.grownBy w2 (Value.slice none 0 0).ownBlock := by first | exact hgr2 | exact grownBy_of_drew hgr2
          have hown3 : w2.ownsRow 0 3 1 (.slice (some ⟨gg, 0, none⟩) ps.length cap2) ps.length (numsV (ps.map Prod.fst)) := by
            have h := owns_base (base' := 0) hown2 (fun _ _ => Nat.zero_le _)
            simpa using h
          obtain ⟨x1, x2, x3, x4⟩ := rpush_at hc1 hgr hown3
          have hbf := below_chg hb1 x4 (fun k hk => by
            rcases hk with hk | hk | hk
            · omega
            · simp [Value.ownBlock] at hk
            · simp [Value.ownBlock] at hk)
          have hgn : w.heap.size ≤ gg := (hown2.lt gg rfl).1
          clear hown2 hgr2 hgr hown3 x3 x4 q0 q2 hnw hnl hn1
          go_wp2_with fail
          go_meet
          case rel => exact ⟨_, x1, x2, fun k hk => by have : gg = k := by simpa [Value.ownBlock] using hk
                                                       omega, hbf⟩
      · have hp0 : ps.length = 0 := by omega
        obtain ⟨rfl, rfl⟩ := hnil hp0
        go_wp2_with fail
        go_region
        all_goals
          have x1 : (W1.setCell ⟨w.heap.size, 5, none⟩ (.slice none 0 0)).drew.heap[w.heap.size]? = some (rboxB K M O S z (.slice none 0 0) (.slice none 0 0)) := by
            show (W1.setCell ⟨w.heap.size, 5, none⟩ (.slice none 0 0)).heap[w.heap.size]? = _
            rw [heap_setCell_same _ _ _ _ _ _ hc1.box]; rfl
          have hbf : Below w.heap.size w (W1.setCell ⟨w.heap.size, 5, none⟩ (.slice none 0 0)).drew := (hb1.setCell (Nat.le_refl _) _).drew
          have hpn : ps = [] := List.eq_nil_of_length_eq_zero hp0
          go_wp2_with fail
          go_meet
          case rel => exact ⟨_, x1, by rw [hpn]; exact World.ownsRow_nil _ _ _ _, fun k hk => by simp [Value.ownBlock] at hk, hbf⟩
    case rest =>
      clear d0 d1 d2 d3 d4 d5 d6 hc z5 c0 c1 c2 c3 c4 c5 c6 hr1 hbx hc1 hb1
      obtain ⟨cv, hcb, hco, hcn, hb2⟩ := hcut
      have hbx := hbox.on (Nat.le_refl _) hb2
      obtain ⟨d0, d1, d2, d3, d4, d5, d6, hc⟩ := rbox_cells hcb
      have z6 := found_frozen hcb 6
      obtain ⟨c0, c1, c2, c3, c4, c5, c6, hr1⟩ := rbox_cells hbx.box
      have hcr := owns_other hco hcb (by decide)
      go_upto_region 3 with fail
      go_cut [] (fun wd => ∃ dv, NeedAt w wd w.heap.size K M O S z cv dv ps)
      case first =>
        by_cases hne : 0 < ps.length
        · obtain ⟨gp, cp, rfl, hgp, hgpl⟩ := hbx.op.form hne
          have hnw := owns_news hbx.op
          have hnl : (textV (ps.map Prod.snd)).length = ps.length * 1 := by simp [textV]
          have hn1 : ∀ u ∈ textV (ps.map Prod.snd), u.oneCell' = true := fun u hu => by
            unfold textV at hu
            obtain ⟨x, _, rfl⟩ := List.mem_map.1 hu
            rfl
          go_wp2_with fail
          go_region_law ((refine step_append_lies _ (by rfl) (.tmp 34) (.tmp 38) 27 (by rfl) w.heap.size 9 j0 (.string ByteArray.empty) 1 16 Tryz.underlying27 gi gz0 gz1 gz2 rfl (by decide) _ 0 [] (by rfl) (World.ownsRow_nil _ _ _ _) ⟨gp, 0, none⟩ ps.length cp (textV (ps.map Prod.snd)) (by rfl) hnl hnw hn1 hne (by unfold maxLen; omega) (by omega) (Nat.le_of_lt hc) wc.heap.size rfl ?_; intro gg cap2 w2 hown2 hgr2 hat2 hlt2; have q0 := (hgr2.cell_far ⟨w.heap.size, 6, none⟩ hc (by simp [Value.ownBlock])).trans d6; have q2 := (hgr2.frozen_far ⟨w.heap.size, 6, none⟩ hc (by simp [Value.ownBlock])).trans z6))
          all_goals
            have hgr : wc.grownBy w2 (Value.slice none 0 0).ownBlock := by first | exact hgr2 | exact grownBy_of_drew hgr2
            have hown3 : w2.ownsRow 0 9 1 (.slice (some ⟨gg, 0, none⟩) ps.length cap2) ps.length (textV (ps.map Prod.snd)) := by
              have h := owns_base (base' := 0) hown2 (fun _ _ => Nat.zero_le _)
              simpa using h
            obtain ⟨x1, x2, x3, x4⟩ := rpush_piece hcb hco (World.ownsRow_nil _ _ _ _) hgr hown3
            have hbf := below_chg hb2 x4 (fun k hk => by
              rcases hk with hk | hk
              · omega
              · simp [Value.ownBlock] at hk)
            have hgn : w.heap.size ≤ gg := (hown2.lt gg rfl).1
            have hfin : NeedAt w (w2.setCell ⟨w.heap.size, 6, none⟩ (.slice (some ⟨gg, 0, none⟩) ps.length cap2)) w.heap.size K M O S z cv (.slice (some ⟨gg, 0, none⟩) ps.length cap2) ps := ⟨⟨x1, x2, x3⟩, fun k hk => by
              rcases hk with hk | hk | hk
              · omega
              · exact hcn k hk
              · have : gg = k := by simpa [Value.ownBlock] using hk
                omega, hbf⟩
            clear hown2 hgr2 hgr hown3 x1 x2 x3 x4 q0 q2 hnw hnl hn1 hbf
            go_wp2_with fail
            go_meet
            case rel => exact ⟨_, hfin⟩
        · have hp0 : ps.length = 0 := by omega
          obtain ⟨rfl, rfl⟩ := hnil hp0
          go_wp2_with fail
          go_region
          all_goals
            have hpn : ps = [] := List.eq_nil_of_length_eq_zero hp0
            have x1 : (wc.setCell ⟨w.heap.size, 6, none⟩ (.slice none 0 0)).heap[w.heap.size]? = some (rboxB K M O S z cv (.slice none 0 0)) := by
              rw [heap_setCell_same _ _ _ _ _ _ hcb]; rfl
            have x2 : (wc.setCell ⟨w.heap.size, 6, none⟩ (.slice none 0 0)).ownsRow 0 3 1 cv ps.length (numsV (ps.map Prod.fst)) := owns_of_block hco (fun k hk => heap_setCell_other _ _ _ _ (by rintro rfl; exact hcr hk))
            have hfin : NeedAt w (wc.setCell ⟨w.heap.size, 6, none⟩ (.slice none 0 0)).drew w.heap.size K M O S z cv (.slice none 0 0) ps := ⟨⟨x1, x2, by rw [hpn]; exact World.ownsRow_nil _ _ _ _⟩, fun k hk => by
              rcases hk with hk | hk | hk
              · omega
              · exact hcn k hk
              · simp [Value.ownBlock] at hk, (hb2.setCell (Nat.le_refl _) _).drew⟩
            go_wp2_with fail
            go_meet
            case rel => exact ⟨_, hfin⟩
      case rest =>
        clear d0 d1 d2 d3 d4 d5 d6 hc z6 c0 c1 c2 c3 c4 c5 c6 hr1 hbx hcr hcb hco hcn hb2
        obtain ⟨dv, hat⟩ := hcut
        go_wp2_with fail
        go_loopw [4, 5] (fun nv iv wr => ∃ (i : Nat) (cv dv : Value), i ≤ K + M ∧ iv = .int .i64 (i : Int) ∧ nv = .int .i64 ((needTo (boxFacts K M O S z ps) z i).2 : Int) ∧ NeedAt w wr w.heap.size K M O S z cv dv (needPs K M O S z ps i)) (fun _ iv _ => K + M - (intOf iv).toNat)
        case atStart => exact ⟨0, cv, dv, Nat.zero_le _, rfl, rfl, hat⟩
        case round =>
          clear hat
          obtain ⟨i, cv, dv, hi, rfl, rfl, hat⟩ := hrel
          have hbx := hbox.on (Nat.le_refl _) hat.below
          obtain ⟨c0, c1, c2, c3, c4, c5, c6, hr1⟩ := rbox_cells hbx.box
          clear c2 c3 c4 c5 c6 hbx
          have hbd : ∀ n, Below wr.heap.size wr (wr.drewN n) := fun n => ((Chg.refl (fun _ => False) wr).drewN n).below (fun _ _ x => x)
          by_cases hlt : i < K + M
          · have hd : (i : Int) < (K : Int) + (M : Int) := by omega
            have hql := needPs_len K M O S z ps i
            have hqi := needPs_in K M O S z ps hin i hi
            have hns := needTo_succ K M O S z ps i
            have hnp : needPs K M O S z ps (i + 1) = if (told (boxFacts K M O S z (needPs K M O S z ps i)) (2 ^ i) z).2 then needPs K M O S z ps i else needPs K M O S z ps i ++ [(i, zeroB z)] := rfl
            have hget := fun W hb hA hP => rget_any w.heap.size K M O S z i cv dv (needPs K M O S z ps i) W hK hM hO hS hz hb hA hP (by omega) hqi (by omega)
            have hnl := needTo_le (boxFacts K M O S z ps) z i
            generalize needPs K M O S z ps i = qs at *
            generalize told (boxFacts K M O S z qs) (2 ^ i) z = td at *
            generalize (needTo (boxFacts K M O S z ps) z i).2 = nn at *
            have Hns := hide hns
            have Hnp := hide hnp
            clear hns hnp
            go_wp2_with fail
            go_quiet (fail)
            all_goals
              have hat1 := hat.on (hbd nq)
              go_wp2_with fail
              refine (hget _ hat1.mine.box hat1.mine.nums hat1.mine.texts).mono ?_
              rintro e w1 ⟨rfl, hb1⟩
              have hat2 := hat1.on hb1
              clear hat1 hb1 hat c0 c1 hget
              cases htd : td.2
              · rw [htd] at Hns Hnp
                have hns : (needTo (boxFacts K M O S z ps) z (i + 1)).2 = nn + 1 := Hns.out
                have hnp : needPs K M O S z ps (i + 1) = qs ++ [(i, zeroB z)] := Hnp.out
                have Hn1 := hide hns
                have Hn2 := hide hnp
                clear hns hnp Hns Hnp
                have hbx := hat2.mine
                obtain ⟨c0, c1, c2, c3, c4, c5, c6, hr1⟩ := rbox_cells hbx.box
                have z5 := found_frozen hbx.box 5
                have hbw := hat2.below
                have hnew := hat2.new
                clear c0 c1 c2 c3 hat2 htd
                go_wp2_with (at_builtin; refine wpList_append_lies _ rfl (.tmp 71) (.tmp 73) 63 rfl 0 3 i0 (.int .i64 0) 1 8 Tryz.underlying63 hii hz0 hz1 hz2 rfl (by decide) _ _ _ rfl (hbx.oa.alloc _) ⟨w1.heap.size, 0, none⟩ 1 1 [.int .i64 (i : Int)] rfl rfl (one_news _ _ _) (one_oneCell rfl) (by decide) (by unfold maxLen; omega) (by omega) (Nat.zero_le _) (w1.heap.size + 1) (by simp) ?_)
                intro g cap w2 hown2 hgr2 hat2 hlt2
                have hgr := grownBy_of_alloc hgr2
                obtain ⟨hr2, hoa2, hop2, hcg2⟩ := rpush_at hbx hgr hown2
                have hra := owns_other hbx.oa hbx.box (by decide)
                have hr0 : w2.heap[w.heap.size]? = some (rboxB K M O S z cv dv) := by rw [hgr.block _ hr1 (fun e => hra e.symm)]; exact hbx.box
                have hs1 := hbw.size
                have hgn : w.heap.size ≤ g := by
                  rcases hat2 with h | h
                  · exact hnew g (Or.inr (Or.inl h))
                  · omega
                have hbw2 := below_chg hbw hcg2 (fun k hk => hnew k hk)
                have hdn : ∀ k, dv.ownBlock = some k → w.heap.size ≤ k := fun k hk => hnew k (Or.inr (Or.inr hk))
                obtain ⟨d0, d1, d2, d3, d4, d5, d6, hr3⟩ := rbox_cells hr0
                have y5 := found_frozen hr0 5
                clear d0 d1 d2 d3 d4 d6 hown2 hgr2 hgr hat2 c4 c5 c6 z5 hra hr0 hbx hcg2 hbw hnew
                obtain ⟨W2, hW2⟩ : ∃ W2, W2 = w2.setCell ⟨w.heap.size, 5, none⟩ (.slice (some ⟨g, 0, none⟩) (qs.length + 1) cap) := ⟨_, rfl⟩
                rw [← hW2] at hr2 hoa2 hop2 hbw2
                go_upto_region 12 with fail
                rw [← hW2]
                clear hW2 d5 y5
                obtain ⟨e0, e1, e2, e3, e4, e5, e6, hr4⟩ := rbox_cells hr2
                have x6 := found_frozen hr2 6
                have hnt := fun W => noughts_any z W (by omega)
                clear e0 e1 e2 e3 e5
                go_region_law ((first
                  | (refine step_append_lies _ (by rfl) (.tmp 81) (.tmp 87) 27 (by rfl) 0 9 j0 (.string ByteArray.empty) 1 16 Tryz.underlying27 gi gz0 gz1 gz2 rfl (by decide) _ _ _ (by rfl) (World.ownsRow.drew (World.ownsRow.alloc hop2 _)) ⟨W2.heap.size, 0, none⟩ 1 1 [.string (zeroB z)] (by rfl) rfl (World.news_of_block (cs := #[_]) (heap_alloc_new W2 _)) (one_oneCell rfl) (by decide) (by unfold maxLen; omega) (by omega) (Nat.zero_le _) (W2.heap.size + 1) (by simp) ?_; intro g3 cap3 w3 hown3 hgr3 hat3 hlt3; have hgr := grownBy_of_alloc (grownBy_of_drew hgr3); have v6 := (hgr.cell_far ⟨w.heap.size, 6, none⟩ hr4 (fun e => owns_other hop2 hr2 (by decide) e.symm)).trans e6; have u6' := (hgr.frozen_far ⟨w.heap.size, 6, none⟩ hr4 (fun e => owns_other hop2 hr2 (by decide) e.symm)).trans x6)
                  | (refine step_call (by rfl) 54 #[.int .i64 (z : Int)] ?_ (.string (zeroB z)) (hnt _) ?_; go_simp)))
                all_goals
                  obtain ⟨x1, x2, x3, x4⟩ := rpush_piece hr2 hoa2 hop2 hgr hown3
                  have hbf := below_chg hbw2 x4 (fun k hk => by
                    rcases hk with hk | hk
                    · omega
                    · exact hdn k hk)
                  have hw2s := hbw2.size
                  have hg3 : w.heap.size ≤ g3 := by
                    rcases hat3 with h | h
                    · exact hdn g3 h
                    · omega
                  have hfin : NeedAt w (w3.setCell ⟨w.heap.size, 6, none⟩ (.slice (some ⟨g3, 0, none⟩) (qs.length + 1) cap3)) w.heap.size K M O S z (.slice (some ⟨g, 0, none⟩) (qs.length + 1) cap) (.slice (some ⟨g3, 0, none⟩) (qs.length + 1) cap3) (qs ++ [(i, zeroB z)]) :=
                    ⟨⟨x1, by simpa [numsV] using x2, by simpa [textV] using x3⟩, fun k hk => by
                      rcases hk with hk | hk | hk
                      · omega
                      · have : g = k := by simpa [Value.ownBlock] using hk
                        omega
                      · have : g3 = k := by simpa [Value.ownBlock] using hk
                        omega, hbf⟩
                  clear x1 x2 x3 x4 hown3 hgr3 hgr hat3 v6 u6' e4 e6 x6 hr2 hoa2 hop2 hbw2 hbf
                  go_wp2_with fail
                  go_roundw
                  case rel => exact ⟨i + 1, _, _, by omega, by go_num, by rw [Hn1.out]; go_num, by rw [Hn2.out]; exact hfin⟩
                  case measure => simp [intOf]; omega
              · rw [htd] at Hns Hnp
                have hns : (needTo (boxFacts K M O S z ps) z (i + 1)).2 = nn := Hns.out
                have hnp : needPs K M O S z ps (i + 1) = qs := Hnp.out
                have Hn1 := hide hns
                have Hn2 := hide hnp
                clear hns hnp Hns Hnp
                go_wp2_with fail
                go_roundw
                case rel => exact ⟨i + 1, cv, dv, by omega, by go_num, by rw [Hn1.out], by rw [Hn2.out]; exact hat2⟩
                case measure => simp [intOf]; omega
          · have hd : ¬ (i : Int) < (K : Int) + (M : Int) := by omega
            have hik : i = K + M := by omega
            rw [hik]
            have hbw := hat.below
            go_wp2_with fail
            go_quiet (fail)
            all_goals
              have hbf := hbw.trans ((hbd nq).mono hbw.size)
              go_wp2_with fail
              go_ret
              exact ⟨rfl, hbf⟩

end Go.Proofs.YtnjaofkieajnlaaGreat
