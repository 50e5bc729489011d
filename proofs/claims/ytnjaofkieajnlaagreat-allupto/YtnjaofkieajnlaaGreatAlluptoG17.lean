/- Texts of the proof, part 18. -/
import Derived.BigRegion
import Derived.Laws.ResultCell
import Derived.Test.YtnjaofkieajnlaaGreatAlluptoG16
import Derived.Test.YtnjaofkieajnlaaGreatAlluptoG9

/- The document's own Need. -/
namespace Go.Proofs.YtnjaofkieajnlaaGreat
open Go.RowKit

/-- The pieces of the copy that Need fills, ahead of place i. -/
def needPs (K M O S z : Nat) (ps : List (Nat × ByteArray)) : Nat → List (Nat × ByteArray)
  | 0 => ps
  | i + 1 => if (told (boxFacts K M O S z (needPs K M O S z ps i)) (2 ^ i) z).2 then needPs K M O S z ps i else needPs K M O S z ps i ++ [(i, zeroB z)]

theorem boxFacts_snoc (K M O S z : Nat) (ps : List (Nat × ByteArray)) (i : Nat) (t : ByteArray) : boxFacts K M O S z (ps ++ [(i, t)]) = boxFacts K M O S z ps ++ [(2 ^ i, t)] := by
  unfold boxFacts putFacts
  rw [List.map_append, ← List.append_assoc]; rfl

theorem needPs_facts (K M O S z : Nat) (ps : List (Nat × ByteArray)) (i : Nat) : (needTo (boxFacts K M O S z ps) z i).1 = boxFacts K M O S z (needPs K M O S z ps i) := by
  induction i with
  | zero => rfl
  | succ i ih =>
    show (if (told (needTo (boxFacts K M O S z ps) z i).1 (2 ^ i) z).2 = true then needTo (boxFacts K M O S z ps) z i else ((needTo (boxFacts K M O S z ps) z i).1 ++ [(2 ^ i, zeroB z)], (needTo (boxFacts K M O S z ps) z i).2 + 1)).1 = boxFacts K M O S z (if (told (boxFacts K M O S z (needPs K M O S z ps i)) (2 ^ i) z).2 = true then needPs K M O S z ps i else needPs K M O S z ps i ++ [(i, zeroB z)])
    rw [ih]
    split
    · exact ih
    · rw [boxFacts_snoc]

theorem needTo_succ (K M O S z : Nat) (ps : List (Nat × ByteArray)) (i : Nat) : (needTo (boxFacts K M O S z ps) z (i + 1)).2 = if (told (boxFacts K M O S z (needPs K M O S z ps i)) (2 ^ i) z).2 = true then (needTo (boxFacts K M O S z ps) z i).2 else (needTo (boxFacts K M O S z ps) z i).2 + 1 := by
  show (if (told (needTo (boxFacts K M O S z ps) z i).1 (2 ^ i) z).2 = true then needTo (boxFacts K M O S z ps) z i else ((needTo (boxFacts K M O S z ps) z i).1 ++ [(2 ^ i, zeroB z)], (needTo (boxFacts K M O S z ps) z i).2 + 1)).2 = _
  rw [needPs_facts]
  split <;> rfl

theorem needTo_le (F : List Fct) (z i : Nat) : (needTo F z i).2 ≤ i := by
  induction i with
  | zero => exact Nat.le_refl _
  | succ i ih =>
    show (if (told (needTo F z i).1 (2 ^ i) z).2 = true then needTo F z i else ((needTo F z i).1 ++ [(2 ^ i, zeroB z)], (needTo F z i).2 + 1)).2 ≤ i + 1
    split
    · omega
    · show (needTo F z i).2 + 1 ≤ i + 1; omega

theorem needPs_len (K M O S z : Nat) (ps : List (Nat × ByteArray)) (i : Nat) : (needPs K M O S z ps i).length ≤ ps.length + i := by
  induction i with
  | zero => exact Nat.le_refl _
  | succ i ih =>
    show (if _ then needPs K M O S z ps i else needPs K M O S z ps i ++ [(i, zeroB z)]).length ≤ _
    split
    · omega
    · rw [List.length_append]; simp; omega

theorem needPs_in (K M O S z : Nat) (ps : List (Nat × ByteArray)) (h : ∀ x ∈ ps, x.1 < K + M ∧ x.2.size = z) (i : Nat) (hi : i ≤ K + M) : ∀ x ∈ needPs K M O S z ps i, x.1 < K + M ∧ x.2.size = z := by
  induction i with
  | zero => exact h
  | succ i ih =>
    intro x hx
    have hx' : x ∈ (if (told (boxFacts K M O S z (needPs K M O S z ps i)) (2 ^ i) z).2 = true then needPs K M O S z ps i else needPs K M O S z ps i ++ [(i, zeroB z)]) := hx
    split at hx'
    · exact ih (by omega) x hx'
    · rcases List.mem_append.1 hx' with hx' | hx'
      · exact ih (by omega) x hx'
      · simp at hx'; subst hx'; exact ⟨by show i < K + M; omega, zeroB_size z⟩

/-- Where Need stands: the copy in block c, all its blocks new; the box itself is as it was. -/
structure NeedAt (w wr : World) (c K M O S z : Nat) (cv dv : Value) (qs : List (Nat × ByteArray)) : Prop where
  mine : RBoxAt wr c K M O S z cv dv qs
  new : ∀ k, fpR c cv dv k → w.heap.size ≤ k
  below : Below w.heap.size w wr

theorem NeedAt.on {w wr w' : World} {c K M O S z : Nat} {cv dv : Value} {qs : List (Nat × ByteArray)} (h : NeedAt w wr c K M O S z cv dv qs) (hb : Below wr.heap.size wr w') : NeedAt w w' c K M O S z cv dv qs :=
  ⟨h.mine.on (Nat.le_refl _) hb, h.new, h.below.trans (hb.mono h.below.size)⟩

end Go.Proofs.YtnjaofkieajnlaaGreat

namespace Go.Proofs.YtnjaofkieajnlaaGreat
open Go.RowKit

theorem owns_news {w : World} {base : Nat} {e : TypeId} {g n cap : Nat} {xs : List Value} (h : w.ownsRow base e 1 (.slice (some ⟨g, 0, none⟩) n cap) n xs) : ∀ j u, xs[j]? = some u → w.cell? ((⟨g, 0, none⟩ : Addr).add j) = some u := by
  intro j u hu
  rw [Addr.add_mid, Nat.zero_add]
  rcases h.2 with ⟨h0, _⟩ | ⟨g', cap', cur, he, _, hg, hc, _, _, ht⟩
  · cases h0
  · have : g' = g := by simp at he; exact he.1.symm
    subst this
    rw [cell_of_row _ _ _ _ _ _ hg]
    rw [← ht, List.getElem?_take] at hu
    split at hu
    · simpa using hu
    · cases hu

/-- A call that leaves the world as it was, at a step of a region that draws its order. -/
theorem step_call {P : Program} {w : World} {ops : Array Oper} {o : Oper} {a : Act} {K : Act → World → Prop} {Q : Exit → Act → World → Prop} {E : Prop} (hgd : o.guard = none) (f : FuncId) (args : Array Value) (hrun : (execOp a.eval o).run P w = .ok (.enter f args) w) (v : Value)
    (hc : Calls P f args w fun e w' => e = .returned v ∧ w' = w) (h : K (a.put o.dst v) w) : if Region.wanted o (yielded ops a.tmps) = true then Oper.wp P o a w K Q else E := by
  have hw : Region.wanted o (yielded ops a.tmps) = true := by simp [Region.wanted, hgd]
  rw [if_pos hw]
  unfold Oper.wp
  rw [hrun, Oper.upon_enter]
  refine hc.mono fun e w'' hh => ?_
  obtain ⟨rfl, rfl⟩ := hh
  exact h

set_option maxRecDepth 100000 in
set_option maxHeartbeats 8000000 in
theorem rneed_any (r K M O S z : Nat) (av pv : Value) (ps : List (Nat × ByteArray)) (w : World) (hK : 1 ≤ K ∧ K ≤ 20) (hM : 1 ≤ M ∧ M ≤ 20) (hO : 1 ≤ O ∧ O ≤ M) (hS : S ≤ 65535) (hz : 0 < z ∧ z ≤ 1000)
    (hbox : RBoxAt w r K M O S z av pv ps) (hps : ps.length ≤ 800) (hin : ∀ x ∈ ps, x.1 < K + M ∧ x.2.size = z) (hnil : ps.length = 0 → av = .slice none 0 0 ∧ pv = .slice none 0 0) :
    Calls Tryz.prog 29 #[.pointer (some ⟨r, 0, none⟩)] w fun e w' => e = .returned (.int .i64 ((needTo (boxFacts K M O S z ps) z (K + M)).2 : Int)) ∧ Below w.heap.size w w' := by
  obtain ⟨c0, c1, c2, c3, c4, c5, c6, hr⟩ := rbox_cells hbox.box
  obtain ⟨i0, hii, hz0, hz1, hz2⟩ := info_parts Tryz.infoInt
  obtain ⟨j0, gi, gz0, gz1, gz2⟩ := info_parts Tryz.infoText
  go_enter Tryz.func29, Tryz.ntmps29
  go_wp2_with fail
  go_region
  all_goals
    have hb1 : Below w.heap.size w (w.alloc (rboxB K M O S z (.slice none 0 0) (.slice none 0 0))).drew := ((Below.refl _ _).alloc (Nat.le_refl _) _).drew
    have hc1 : RBoxAt (w.alloc (rboxB K M O S z (.slice none 0 0) (.slice none 0 0))).drew w.heap.size K M O S z (.slice none 0 0) (.slice none 0 0) [] := ⟨heap_alloc_new w _, World.ownsRow_nil _ _ _ _, World.ownsRow_nil _ _ _ _⟩
    have hbx := hbox.on (Nat.le_refl _) hb1
    generalize (w.alloc (rboxB K M O S z (.slice none 0 0) (.slice none 0 0))).drew = W1 at *
    obtain ⟨d0, d1, d2, d3, d4, d5, d6, hc⟩ := rbox_cells hc1.box
    have z5 := found_frozen hc1.box 5
    clear c0 c1 c2 c3 c4 c5 c6
    obtain ⟨c0, c1, c2, c3, c4, c5, c6, hr1⟩ := rbox_cells hbx.box
    go_upto_region 2 with fail
    go_cut [] (fun wc => ∃ cv, wc.heap[w.heap.size]? = some (rboxB K M O S z cv (.slice none 0 0)) ∧ wc.ownsRow 0 3 1 cv ps.length (numsV (ps.map Prod.fst)) ∧ (∀ k, cv.ownBlock = some k → w.heap.size ≤ k) ∧ Below w.heap.size w wc)
    case first =>
      by_cases hne : 0 < ps.length
      · obtain ⟨ga, ca, rfl, hga, hgal⟩ := hbx.oa.form hne
        have hnw := owns_news hbx.oa
        have hnl : (numsV (ps.map Prod.fst)).length = ps.length * 1 := by simp [numsV]
        have hn1 : ∀ u ∈ numsV (ps.map Prod.fst), u.oneCell' = true := fun u hu => by
          unfold numsV at hu
          obtain ⟨x, _, rfl⟩ := List.mem_map.1 hu
          rfl
        go_wp2_with fail
        go_region_law ((refine step_append_lies _ (by rfl) (.tmp 22) (.tmp 26) 63 (by rfl) w.heap.size 3 i0 (.int .i64 0) 1 8 Tryz.underlying63 hii hz0 hz1 hz2 rfl (by decide) _ 0 [] (by rfl) (World.ownsRow_nil _ _ _ _) ⟨ga, 0, none⟩ ps.length ca (numsV (ps.map Prod.fst)) (by rfl) hnl hnw hn1 hne (by unfold maxLen; omega) (by omega) (Nat.le_of_lt hc) W1.heap.size rfl ?_; intro gg cap2 w2 hown2 hgr2 hat2 hlt2; have q0 := (hgr2.cell_far ⟨w.heap.size, 5, none⟩ hc (by simp [Value.ownBlock])).trans d5; have q2 := (hgr2.frozen_far ⟨w.heap.size, 5, none⟩ hc (by simp [Value.ownBlock])).trans z5))
        all_goals
          have hgr : W1.grownBy w2 (Value.slice none 0 0).ownBlock := by first | exact hgr2 | exact grownBy_of_drew hgr2
          have hown3 : w2.ownsRow 0 3 1 (.slice (some ⟨gg, 0, none⟩) ps.length cap2) ps.length (numsV (ps.map Prod.fst)) := by
            have h := owns_base (base' := 0) hown2 (fun _ _ => Nat.zero_le _)
            simpa using h
          obtain ⟨x1, x2, x3, x4⟩ := rpush_at hc1 hgr hown3
          have hbf := below_chg hb1 x4 (fun k hk => by
            rcases hk with hk | hk | hk
            · omega
            · simp [Value.ownBlock] at hk
            · simp [Value.ownBlock] at hk)
          have hgn : w.heap.size ≤ gg := (hown2.lt gg rfl).1
          clear hown2 hgr2 hgr hown3 x3 x4 q0 q2 hnw hnl hn1
          go_wp2_with fail
          go_meet
          case rel => exact ⟨_, x1, x2, fun k hk => by have : gg = k := by simpa [Value.ownBlock] using hk
                                                       omega, hbf⟩
      · have hp0 : ps.length = 0 := by omega
        obtain ⟨rfl, rfl⟩ := hnil hp0
        go_wp2_with fail
        go_region
        all_goals
          have x1 : (W1.setCell ⟨w.heap.size, 5, none⟩ (.slice none 0 0)).drew.heap[w.heap.size]? = some (rboxB K M O S z (.slice none 0 0) (.slice none 0 0)) := by
            show (W1.setCell ⟨w.heap.size, 5, none⟩ (.slice none 0 0)).heap[w.heap.size]? = _
            rw [heap_setCell_same _ _ _ _ _ _ hc1.box]; rfl
          have hbf : Below w.heap.size w (W1.setCell ⟨w.heap.size, 5, none⟩ (.slice none 0 0)).drew := (hb1.setCell (Nat.le_refl _) _).drew
          have hpn : ps = [] := List.eq_nil_of_length_eq_zero hp0
          go_wp2_with fail
          go_meet
          case rel => exact ⟨_, x1, by rw [hpn]; exact World.ownsRow_nil _ _ _ _, fun k hk => by simp [Value.ownBlock] at hk, hbf⟩
    case rest =>
      clear d0 d1 d2 d3 d4 d5 d6 hc z5 c0 c1 c2 c3 c4 c5 c6 hr1 hbx hc1 hb1
      obtain ⟨cv, hcb, hco, hcn, hb2⟩ := hcut
      have hbx := hbox.on (Nat.le_refl _) hb2
      obtain ⟨d0, d1, d2, d3, d4, d5, d6, hc⟩ := rbox_cells hcb
      have z6 := found_frozen hcb 6
      obtain ⟨c0, c1, c2, c3, c4, c5, c6, hr1⟩ := rbox_cells hbx.box
      have hcr := owns_other hco hcb (by decide)
      go_upto_region 3 with fail
      go_cut [] (fun wd => ∃ dv, NeedAt w wd w.heap.size K M O S z cv dv ps)
      case first =>
        by_cases hne : 0 < ps.length
        · obtain ⟨gp, cp, rfl, hgp, hgpl⟩ := hbx.op.form hne
          have hnw := owns_news hbx.op
          have hnl : (textV (ps.map Prod.snd)).length = ps.length * 1 := by simp [textV]
          have hn1 : ∀ u ∈ textV (ps.map Prod.snd), u.oneCell' = true := fun u hu => by
            unfold textV at hu
            obtain ⟨x, _, rfl⟩ := List.mem_map.1 hu
            rfl
          go_wp2_with fail
          go_region_law ((refine step_append_lies _ (by rfl) (.tmp 34) (.tmp 38) 27 (by rfl) w.heap.size 9 j0 (.string ByteArray.empty) 1 16 Tryz.underlying27 gi gz0 gz1 gz2 rfl (by decide) _ 0 [] (by rfl) (World.ownsRow_nil _ _ _ _) ⟨gp, 0, none⟩ ps.length cp (textV (ps.map Prod.snd)) (by rfl) hnl hnw hn1 hne (by unfold maxLen; omega) (by omega) (Nat.le_of_lt hc) wc.heap.size rfl ?_; intro gg cap2 w2 hown2 hgr2 hat2 hlt2; have q0 := (hgr2.cell_far ⟨w.heap.size, 6, none⟩ hc (by simp [Value.ownBlock])).trans d6; have q2 := (hgr2.frozen_far ⟨w.heap.size, 6, none⟩ hc (by simp [Value.ownBlock])).trans z6))
          all_goals
            have hgr : wc.grownBy w2 (Value.slice none 0 0).ownBlock := by first | exact hgr2 | exact grownBy_of_drew hgr2
            have hown3 : w2.ownsRow 0 9 1 (.slice (some ⟨gg, 0, none⟩) ps.length cap2) ps.length (textV (ps.map Prod.snd)) := by
              have h := owns_base (base' := 0) hown2 (fun _ _ => Nat.zero_le _)
              simpa using h
            obtain ⟨x1, x2, x3, x4⟩ := rpush_piece hcb hco (World.ownsRow_nil _ _ _ _) hgr hown3
            have hbf := below_chg hb2 x4 (fun k hk => by
              rcases hk with hk | hk
              · omega
              · simp [Value.ownBlock] at hk)
            have hgn : w.heap.size ≤ gg := (hown2.lt gg rfl).1
            have hfin : NeedAt w (w2.setCell ⟨w.heap.size, 6, none⟩ (.slice (some ⟨gg, 0, none⟩) ps.length cap2)) w.heap.size K M O S z cv (.slice (some ⟨gg, 0, none⟩) ps.length cap2) ps := ⟨⟨x1, x2, x3⟩, fun k hk => by
              rcases hk with hk | hk | hk
              · omega
              · exact hcn k hk
              · have : gg = k := by simpa [Value.ownBlock] using hk
                omega, hbf⟩
            clear hown2 hgr2 hgr hown3 x1 x2 x3 x4 q0 q2 hnw hnl hn1 hbf
            go_wp2_with fail
            go_meet
            case rel => exact ⟨_, hfin⟩
        · have hp0 : ps.length = 0 := by omega
          obtain ⟨rfl, rfl⟩ := hnil hp0
          go_wp2_with fail
          go_region
          all_goals
            have hpn : ps = [] := List.eq_nil_of_length_eq_zero hp0
            have x1 : (wc.setCell ⟨w.heap.size, 6, none⟩ (.slice none 0 0)).heap[w.heap.size]? = some (rboxB K M O S z cv (.slice none 0 0)) := by
              rw [heap_setCell_same _ _ _ _ _ _ hcb]; rfl
            have x2 : (wc.setCell ⟨w.heap.size, 6, none⟩ (.slice none 0 0)).ownsRow 0 3 1 cv ps.length (numsV (ps.map Prod.fst)) := owns_of_block hco (fun k hk => heap_setCell_other _ _ _ _ (by rintro rfl; exact hcr hk))
            have hfin : NeedAt w (wc.setCell ⟨w.heap.size, 6, none⟩ (.slice none 0 0)).drew w.heap.size K M O S z cv (.slice none 0 0) ps := ⟨⟨x1, x2, by rw [hpn]; exact World.ownsRow_nil _ _ _ _⟩, fun k hk => by
              rcases hk with hk | hk | hk
              · omega
              · exact hcn k hk
              · simp [Value.ownBlock] at hk, (hb2.setCell (Nat.le_refl _) _).drew⟩
            go_wp2_with fail
            go_meet
            case rel => exact ⟨_, hfin⟩
      case rest =>
        clear d0 d1 d2 d3 d4 d5 d6 hc z6 c0 c1 c2 c3 c4 c5 c6 hr1 hbx hcr hcb hco hcn hb2
        obtain ⟨dv, hat⟩ := hcut
        go_wp2_with fail
        go_loopw [4, 5] (fun nv iv wr => ∃ (i : Nat) (cv dv : Value), i ≤ K + M ∧ iv = .int .i64 (i : Int) ∧ nv = .int .i64 ((needTo (boxFacts K M O S z ps) z i).2 : Int) ∧ NeedAt w wr w.heap.size K M O S z cv dv (needPs K M O S z ps i)) (fun _ iv _ => K + M - (intOf iv).toNat)
        case atStart => exact ⟨0, cv, dv, Nat.zero_le _, rfl, rfl, hat⟩
        case round =>
          clear hat
          obtain ⟨i, cv, dv, hi, rfl, rfl, hat⟩ := hrel
          have hbx := hbox.on (Nat.le_refl _) hat.below
          obtain ⟨c0, c1, c2, c3, c4, c5, c6, hr1⟩ := rbox_cells hbx.box
          clear c2 c3 c4 c5 c6 hbx
          have hbd : ∀ n, Below wr.heap.size wr (wr.drewN n) := fun n => ((Chg.refl (fun _ => False) wr).drewN n).below (fun _ _ x => x)
          by_cases hlt : i < K + M
          · have hd : (i : Int) < (K : Int) + (M : Int) := by omega
            have hql := needPs_len K M O S z ps i
            have hqi := needPs_in K M O S z ps hin i hi
            have hns := needTo_succ K M O S z ps i
            have hnp : needPs K M O S z ps (i + 1) = if (told (boxFacts K M O S z (needPs K M O S z ps i)) (2 ^ i) z).2 then needPs K M O S z ps i else needPs K M O S z ps i ++ [(i, zeroB z)] := rfl
            have hget := fun W hb hA hP => rget_any w.heap.size K M O S z i cv dv (needPs K M O S z ps i) W hK hM hO hS hz hb hA hP (by omega) hqi (by omega)
            have hnl := needTo_le (boxFacts K M O S z ps) z i
            generalize needPs K M O S z ps i = qs at *
            generalize told (boxFacts K M O S z qs) (2 ^ i) z = td at *
            generalize (needTo (boxFacts K M O S z ps) z i).2 = nn at *
            have Hns := hide hns
            have Hnp := hide hnp
            clear hns hnp
            go_wp2_with fail
            go_quiet (fail)
            all_goals
              have hat1 := hat.on (hbd nq)
              go_wp2_with fail
              refine (hget _ hat1.mine.box hat1.mine.nums hat1.mine.texts).mono ?_
              rintro e w1 ⟨rfl, hb1⟩
              have hat2 := hat1.on hb1
              clear hat1 hb1 hat c0 c1 hget
              cases htd : td.2
              · rw [htd] at Hns Hnp
                have hns : (needTo (boxFacts K M O S z ps) z (i + 1)).2 = nn + 1 := Hns.out
                have hnp : needPs K M O S z ps (i + 1) = qs ++ [(i, zeroB z)] := Hnp.out
                have Hn1 := hide hns
                have Hn2 := hide hnp
                clear hns hnp Hns Hnp
                have hbx := hat2.mine
                obtain ⟨c0, c1, c2, c3, c4, c5, c6, hr1⟩ := rbox_cells hbx.box
                have z5 := found_frozen hbx.box 5
                have hbw := hat2.below
                have hnew := hat2.new
                clear c0 c1 c2 c3 hat2 htd
                go_wp2_with (at_builtin; refine wpList_append_lies _ rfl (.tmp 71) (.tmp 73) 63 rfl 0 3 i0 (.int .i64 0) 1 8 Tryz.underlying63 hii hz0 hz1 hz2 rfl (by decide) _ _ _ rfl (hbx.oa.alloc _) ⟨w1.heap.size, 0, none⟩ 1 1 [.int .i64 (i : Int)] rfl rfl (one_news _ _ _) (one_oneCell rfl) (by decide) (by unfold maxLen; omega) (by omega) (Nat.zero_le _) (w1.heap.size + 1) (by simp) ?_)
                intro g cap w2 hown2 hgr2 hat2 hlt2
                have hgr := grownBy_of_alloc hgr2
                obtain ⟨hr2, hoa2, hop2, hcg2⟩ := rpush_at hbx hgr hown2
                have hra := owns_other hbx.oa hbx.box (by decide)
                have hr0 : w2.heap[w.heap.size]? = some (rboxB K M O S z cv dv) := by rw [hgr.block _ hr1 (fun e => hra e.symm)]; exact hbx.box
                have hs1 := hbw.size
                have hgn : w.heap.size ≤ g := by
                  rcases hat2 with h | h
                  · exact hnew g (Or.inr (Or.inl h))
                  · omega
                have hbw2 := below_chg hbw hcg2 (fun k hk => hnew k hk)
                have hdn : ∀ k, dv.ownBlock = some k → w.heap.size ≤ k := fun k hk => hnew k (Or.inr (Or.inr hk))
                obtain ⟨d0, d1, d2, d3, d4, d5, d6, hr3⟩ := rbox_cells hr0
                have y5 := found_frozen hr0 5
                clear d0 d1 d2 d3 d4 d6 hown2 hgr2 hgr hat2 c4 c5 c6 z5 hra hr0 hbx hcg2 hbw hnew
                obtain ⟨W2, hW2⟩ : ∃ W2, W2 = w2.setCell ⟨w.heap.size, 5, none⟩ (.slice (some ⟨g, 0, none⟩) (qs.length + 1) cap) := ⟨_, rfl⟩
                rw [← hW2] at hr2 hoa2 hop2 hbw2
                go_upto_region 12 with fail
                rw [← hW2]
                clear hW2 d5 y5
                obtain ⟨e0, e1, e2, e3, e4, e5, e6, hr4⟩ := rbox_cells hr2
                have x6 := found_frozen hr2 6
                have hnt := fun W => noughts_any z W (by omega)
                clear e0 e1 e2 e3 e5
                go_region_law ((first
                  | (refine step_append_lies _ (by rfl) (.tmp 81) (.tmp 87) 27 (by rfl) 0 9 j0 (.string ByteArray.empty) 1 16 Tryz.underlying27 gi gz0 gz1 gz2 rfl (by decide) _ _ _ (by rfl) (World.ownsRow.drew (World.ownsRow.alloc hop2 _)) ⟨W2.heap.size, 0, none⟩ 1 1 [.string (zeroB z)] (by rfl) rfl (World.news_of_block (cs := #[_]) (heap_alloc_new W2 _)) (one_oneCell rfl) (by decide) (by unfold maxLen; omega) (by omega) (Nat.zero_le _) (W2.heap.size + 1) (by simp) ?_; intro g3 cap3 w3 hown3 hgr3 hat3 hlt3; have hgr := grownBy_of_alloc (grownBy_of_drew hgr3); have v6 := (hgr.cell_far ⟨w.heap.size, 6, none⟩ hr4 (fun e => owns_other hop2 hr2 (by decide) e.symm)).trans e6; have u6' := (hgr.frozen_far ⟨w.heap.size, 6, none⟩ hr4 (fun e => owns_other hop2 hr2 (by decide) e.symm)).trans x6)
                  | (refine step_call (by rfl) 54 #[.int .i64 (z : Int)] ?_ (.string (zeroB z)) (hnt _) ?_; go_simp)))
                all_goals
                  obtain ⟨x1, x2, x3, x4⟩ := rpush_piece hr2 hoa2 hop2 hgr hown3
                  have hbf := below_chg hbw2 x4 (fun k hk => by
                    rcases hk with hk | hk
                    · omega
                    · exact hdn k hk)
                  have hw2s := hbw2.size
                  have hg3 : w.heap.size ≤ g3 := by
                    rcases hat3 with h | h
                    · exact hdn g3 h
                    · omega
                  have hfin : NeedAt w (w3.setCell ⟨w.heap.size, 6, none⟩ (.slice (some ⟨g3, 0, none⟩) (qs.length + 1) cap3)) w.heap.size K M O S z (.slice (some ⟨g, 0, none⟩) (qs.length + 1) cap) (.slice (some ⟨g3, 0, none⟩) (qs.length + 1) cap3) (qs ++ [(i, zeroB z)]) :=
                    ⟨⟨x1, by simpa [numsV] using x2, by simpa [textV] using x3⟩, fun k hk => by
                      rcases hk with hk | hk | hk
                      · omega
                      · have : g = k := by simpa [Value.ownBlock] using hk
                        omega
                      · have : g3 = k := by simpa [Value.ownBlock] using hk
                        omega, hbf⟩
                  clear x1 x2 x3 x4 hown3 hgr3 hgr hat3 v6 u6' e4 e6 x6 hr2 hoa2 hop2 hbw2 hbf
                  go_wp2_with fail
                  go_roundw
                  case rel => exact ⟨i + 1, _, _, by omega, by go_num, by rw [Hn1.out]; go_num, by rw [Hn2.out]; exact hfin⟩
                  case measure => simp [intOf]; omega
              · rw [htd] at Hns Hnp
                have hns : (needTo (boxFacts K M O S z ps) z (i + 1)).2 = nn := Hns.out
                have hnp : needPs K M O S z ps (i + 1) = qs := Hnp.out
                have Hn1 := hide hns
                have Hn2 := hide hnp
                clear hns hnp Hns Hnp
                go_wp2_with fail
                go_roundw
                case rel => exact ⟨i + 1, cv, dv, by omega, by go_num, by rw [Hn1.out], by rw [Hn2.out]; exact hat2⟩
                case measure => simp [intOf]; omega
          · have hd : ¬ (i : Int) < (K : Int) + (M : Int) := by omega
            have hik : i = K + M := by omega
            rw [hik]
            have hbw := hat.below
            go_wp2_with fail
            go_quiet (fail)
            all_goals
              have hbf := hbw.trans ((hbd nq).mono hbw.size)
              go_wp2_with fail
              go_ret
              exact ⟨rfl, hbf⟩

end Go.Proofs.YtnjaofkieajnlaaGreat

/- The document's own catcher: Wants and Object. -/
namespace Go.Proofs.YtnjaofkieajnlaaGreat
open Go.RowKit

/-- A catcher's block. -/
abbrev catB (b : Option Addr) : Obj := .cells #[.pointer b] 47 (0, 0)

theorem cat_cell {w : World} {c : Nat} {b : Option Addr} (h : w.heap[c]? = some (catB b)) : w.cell? ⟨c, 0, none⟩ = some (.pointer b) := by
  rw [cell_of_row _ _ _ _ _ _ h]; rfl

set_option maxRecDepth 100000 in
set_option maxHeartbeats 4000000 in
theorem rwants_nil (c : Nat) (w : World) (hc : w.heap[c]? = some (catB none)) :
    Calls Tryz.prog 35 #[.pointer (some ⟨c, 0, none⟩)] w fun e w' => e = .returned (.int .i64 (-1)) ∧ Below w.heap.size w w' := by
  have c0 := cat_cell hc
  clear hc
  go_enter Tryz.func35, Tryz.ntmps35
  go_wp2_with fail
  go_ret
  exact ⟨rfl, Below.refl _ _⟩

set_option maxRecDepth 100000 in
set_option maxHeartbeats 4000000 in
theorem rwants_box (c r K M O S z : Nat) (av pv : Value) (ps : List (Nat × ByteArray)) (w : World) (hc : w.heap[c]? = some (catB (some ⟨r, 0, none⟩))) (hK : 1 ≤ K ∧ K ≤ 20) (hM : 1 ≤ M ∧ M ≤ 20) (hO : 1 ≤ O ∧ O ≤ M) (hS : S ≤ 65535) (hz : 0 < z ∧ z ≤ 1000)
    (hbox : RBoxAt w r K M O S z av pv ps) (hps : ps.length ≤ 800) (hin : ∀ x ∈ ps, x.1 < K + M ∧ x.2.size = z) (hnil : ps.length = 0 → av = .slice none 0 0 ∧ pv = .slice none 0 0) :
    Calls Tryz.prog 35 #[.pointer (some ⟨c, 0, none⟩)] w fun e w' => e = .returned (.int .i64 ((needTo (boxFacts K M O S z ps) z (K + M)).2 : Int)) ∧ Below w.heap.size w w' := by
  have c0 := cat_cell hc
  have hne := rneed_any r K M O S z av pv ps w hK hM hO hS hz hbox hps hin hnil
  clear hc hbox
  generalize (needTo (boxFacts K M O S z ps) z (K + M)).2 = nd at *
  go_enter Tryz.func35, Tryz.ntmps35
  go_wp2_with fail
  refine hne.mono ?_
  rintro e w1 ⟨rfl, hb1⟩
  go_wp2_with fail
  go_ret
  exact ⟨rfl, hb1⟩

set_option maxRecDepth 100000 in
set_option maxHeartbeats 4000000 in
theorem rcobj_nil (c : Nat) (w : World) (hc : w.heap[c]? = some (catB none)) :
    Calls Tryz.prog 37 #[.pointer (some ⟨c, 0, none⟩)] w fun e w' => e = .returned (.tuple #[.string ByteArray.empty, .int .i64 5]) ∧ Below w.heap.size w w' := by
  have c0 := cat_cell hc
  clear hc
  go_enter Tryz.func37, Tryz.ntmps37
  go_wp2_with fail
  go_ret2
  exact ⟨rfl, Below.refl _ _⟩

end Go.Proofs.YtnjaofkieajnlaaGreat

/- The document's own catcher: its object. -/
namespace Go.Proofs.YtnjaofkieajnlaaGreat
open Go.RowKit

/-- What is told of the first pieces. -/
def gotTo (F : Nat → ByteArray × Bool) : Nat → List ByteArray
  | 0 => []
  | i + 1 => gotTo F i ++ [(F i).1]

theorem gotTo_length (F : Nat → ByteArray × Bool) (i : Nat) : (gotTo F i).length = i := by
  induction i with
  | zero => rfl
  | succ i ih => show (gotTo F i ++ [_]).length = _; rw [List.length_append, ih]; rfl

theorem gotTo_size (F : Nat → ByteArray × Bool) (z : Nat) (h : ∀ i, (F i).1.size = z) (i : Nat) : ∀ x ∈ gotTo F i, x.size = z := by
  induction i with
  | zero => intro x hx; simp [gotTo] at hx
  | succ i ih =>
    intro x hx
    rcases List.mem_append.1 (show x ∈ gotTo F i ++ [(F i).1] from hx) with hx | hx
    · exact ih x hx
    · simp at hx; subst hx; exact h i

theorem catTo_size (l : List ByteArray) (z : Nat) (h : ∀ x ∈ l, x.size = z) (i : Nat) (hi : i ≤ l.length) : (catTo l i).size = i * z := by
  induction i with
  | zero => simp [catTo]
  | succ i ih =>
    show (catTo l i ++ l.getD i ByteArray.empty).size = _
    have hm : (l.getD i ByteArray.empty) ∈ l := by rw [List.getD_eq_getElem?_getD, List.getElem?_eq_getElem (by omega)]; exact List.getElem_mem _
    rw [ByteArray.size_append, ih (by omega), h _ hm, Nat.succ_mul]

set_option maxRecDepth 100000 in
set_option maxHeartbeats 8000000 in
theorem rcobj_box (c r K M O S z : Nat) (av pv : Value) (ps : List (Nat × ByteArray)) (F : Nat → ByteArray × Bool) (T : ByteArray) (w : World) (hc : w.heap[c]? = some (catB (some ⟨r, 0, none⟩))) (hK : 1 ≤ K ∧ K ≤ 20) (hM : 1 ≤ M ∧ M ≤ 20) (hO : 1 ≤ O ∧ O ≤ M) (hS : S ≤ 65535) (hz : 0 < z ∧ z ≤ 16)
    (hbox : RBoxAt w r K M O S z av pv ps) (hps : ps.length ≤ 800) (hin : ∀ x ∈ ps, x.1 < K + M ∧ x.2.size = z) (hF : F = fun i => told (boxFacts K M O S z ps) (2 ^ i) z) (hT : T = catTo (gotTo F K) K) :
    Calls Tryz.prog 37 #[.pointer (some ⟨c, 0, none⟩)] w fun e w' => (((∀ j, j < K → (F j).2 = true) → objOk T = true → e = .returned (.tuple #[.string (objText T), .int .i64 0])) ∧ ((∀ j, j < K → (F j).2 = true) → objOk T = false → e = .returned (.tuple #[.string ByteArray.empty, .int .i64 8])) ∧ (¬ (∀ j, j < K → (F j).2 = true) → e = .returned (.tuple #[.string ByteArray.empty, .int .i64 5]))) ∧ Below w.heap.size w w' := by
  have hFs : ∀ i, (F i).1.size = z := fun i => by
    rw [hF]
    exact (told_ok (boxFacts K M O S z ps) (2 ^ i) z (boxFacts_sized K M O S z ps (fun p hp => (hin p hp).2)) (boxFacts_low K M O S z 40 ps (by omega) (fun p hp => (hin p hp).1))).2.2
  have hge : ∀ wr, Below w.heap.size w wr → ∀ i, i < K → Calls Tryz.prog 31 #[.pointer (some ⟨r, 0, none⟩), .int .i64 (i : Int)] wr fun e w' => e = .returned (.tuple #[.string (F i).1, .bool (F i).2]) ∧ Below wr.heap.size wr w' := fun wr hb i hi => by
    rw [hF]
    exact rget_any r K M O S z i av pv ps wr hK hM hO hS ⟨hz.1, by omega⟩ (block_on hbox.box hb) (owns_nums (owns_below hbox.oa hb) (by simp)) (owns_texts (owns_below hbox.op hb) (by simp)) (by omega) hin (by omega)
  have hTs : T.size ≤ 1000 := by
    rw [hT, catTo_size _ z (gotTo_size F z hFs K) K (by rw [gotTo_length]; exact Nat.le_refl _)]
    exact Nat.le_trans (Nat.mul_le_mul hK.2 hz.2) (by decide)
  have hbx := hbox.box
  clear hF hin hbox
  have HT := hide hT
  clear hT
  obtain ⟨j0, gi, gz0, gz1, gz2⟩ := info_parts Tryz.infoText
  have c0 := cat_cell hc
  obtain ⟨d0, d1, d2, d3, d4, d5, d6, hr⟩ := rbox_cells hbx
  clear d1 d2 d3 d4 d5 d6
  go_enter Tryz.func37, Tryz.ntmps37
  go_wp2_with fail
  go_loopw [4, 23] (fun ov t wr => ∃ i : Nat, i ≤ K ∧ t = .int .i64 i ∧ wr.ownsRow w.heap.size 9 1 ov i (textV (gotTo F i)) ∧ (∀ j, j < i → (F j).2 = true) ∧ Below w.heap.size w wr) (fun _ t _ => K - (intOf t).toNat)
  case atStart => exact ⟨0, Nat.zero_le _, rfl, World.ownsRow_nil _ _ _ _, fun j hj => absurd hj (Nat.not_lt_zero _), Below.refl _ _⟩
  case round =>
    clear c0 d0
    obtain ⟨i, hiK, rfl, hown, hall, hbr⟩ := hrel
    have Hall := hide hall
    have hwr := hbr.size
    have c0 := cat_cell (block_on hc hbr)
    clear hall
    by_cases hlt : i < K
    · have hg := hge wr hbr i hlt
      have hgt : gotTo F (i + 1) = gotTo F i ++ [(F i).1] := rfl
      have Hgt := hide hgt
      clear hgt
      go_wp2_with fail
      refine hg.mono ?_
      rintro e w4 ⟨rfl, hb4⟩
      have hown4 := owns_below hown hb4
      have hbr4 := hbr.trans (hb4.mono hbr.size)
      have hw4 := hbr4.size
      clear hb4 hown hbr hg c0
      cases hk : (F i).2 with
      | false =>
        have hno : ¬ (∀ j, j < K → (F j).2 = true) := fun h => by rw [h i hlt] at hk; cases hk
        have Hno := hide hno
        clear hk hno
        generalize (F i).1 = p at *
        go_wp2_with fail
        go_ret2
        exact ⟨⟨fun h => absurd h Hno.out, fun h => absurd h Hno.out, fun _ => rfl⟩, hbr4⟩
      | true =>
        have Hk := hide hk
        clear hk
        generalize hp : (F i).1 = p at *
        clear hp
        go_wp2_with (at_builtin; refine wpList_append_lies _ rfl (.tmp 37) (.tmp 39) 27 rfl w.heap.size 9 j0 (.string ByteArray.empty) 1 16 Tryz.underlying27 gi gz0 gz1 gz2 rfl (by decide) _ _ _ rfl (hown4.alloc _) ⟨w4.heap.size, 0, none⟩ 1 1 [.string p] rfl rfl (one_news _ _ _) (one_oneCell rfl) (by decide) (by unfold maxLen; omega) (by omega) (by simp; omega) (w4.heap.size + 1) (by simp) ?_)
        intro g5 cap5 w5 hown5 hgr5 hat5 hlt5
        have hb5 : Below w.heap.size w w5 := hbr4.grown (grownBy_of_alloc hgr5) hbr4.size (fun k e => (hown4.lt k e).1)
        clear hown4 hbr4 hgr5 hat5
        go_wp2_with fail
        go_roundw
        case rel =>
          refine ⟨i + 1, by omega, by go_num, by rw [Hgt.out, textV_append]; exact hown5, fun j hj => ?_, hb5⟩
          by_cases e : j = i
          · subst e; exact Hk.out
          · exact Hall.out j (by omega)
        case measure => simp [intOf]; omega
    · have hii : i = K := by omega
      subst hii
      have hob := robject_any u4 (gotTo F i) T wr (owns_texts hown (gotTo_length F i).symm) (by rw [gotTo_length]; omega) (by rw [gotTo_length]; exact HT.out.symm) hTs
      clear hown hge
      go_wp2_with fail
      refine hob.mono ?_
      rintro e w4 ⟨rfl, hb4⟩
      have hbr4 := hbr.trans (hb4.mono hbr.size)
      clear hob hb4
      cases hk : objOk T with
      | false =>
        have Hk := hide hk
        clear hk
        generalize objText T = tt
        go_wp2_with fail
        go_ret2
        exact ⟨⟨fun _ h => (by rw [Hk.out] at h; cases h), fun _ _ => rfl, fun h => absurd Hall.out h⟩, hbr4⟩
      | true =>
        have Hk := hide hk
        clear hk
        obtain ⟨tt, htt⟩ : ∃ tt, tt = objText T := ⟨_, rfl⟩
        rw [← htt]
        have Ht := hide htt
        clear htt
        go_wp2_with fail
        go_ret2
        exact ⟨⟨fun _ _ => by rw [← Ht.out]; rfl, fun _ h => (by rw [Hk.out] at h; cases h), fun h => absurd Hall.out h⟩, hbr4⟩

end Go.Proofs.YtnjaofkieajnlaaGreat

/- The document's own read: small facts. -/
namespace Go.Proofs.YtnjaofkieajnlaaGreat
open Go.RowKit

theorem Tryz.sizeSpecR : (Tryz.prog.info? 25).map (·.size) = some 4 := by kernel_rfl

theorem spec_one (K M O S : Int) : (#[.int .i64 K, .int .i64 M, .int .i64 O, .int .i64 S] : Array Value).all (fun x => x.oneCell') = true := by
  simp [Value.oneCell']

theorem results_read (tmps : Array Value) (w : World) (g : Nat) (K M O S : Int) (fr : Nat × Nat) (hp : tmps.getD 2 undef = .pointer (some ⟨g, 0, none⟩)) (hg : w.heap[g]? = some (.cells #[.int .i64 K, .int .i64 M, .int .i64 O, .int .i64 S] 25 fr)) :
    (results Tryz.f59 tmps).run Tryz.prog w = .ok (.tuple #[specV K M O S, tmps.getD 3 undef, tmps.getD 4 undef, tmps.getD 5 undef, tmps.getD 6 undef]) w := by
  have hl := run_loadVar_row (P := Tryz.prog) w g 25 25 _ fr _ hg Tryz.underlying25 rfl Tryz.sizeSpecR
  have hp' : tmps[2]?.getD undef = .pointer (some ⟨g, 0, none⟩) := by simpa using hp
  simp [results, Tryz.results59, hp', asAddr, hl, specV]

end Go.Proofs.YtnjaofkieajnlaaGreat

/- The document's own read: what lies in a packet. -/
namespace Go.Proofs.YtnjaofkieajnlaaGreat
open Go.RowKit

theorem or_high (a b : Nat) (ha : a < 256) (hb : b < 256) : bits BinOp.or IntKind.i64 (a : Int) ((b : Int) * 256) = ((a + 256 * b : Nat) : Int) := by
  rw [show (b : Int) * 256 = ((b * 256 : Nat) : Int) by omega, i64_or_nat a (b * 256) (by omega) (by omega)]
  rw [Nat.or_comm, show b * 256 = 2 ^ 8 * b by omega, ← Nat.two_pow_add_eq_or_of_lt (by omega)]
  congr 1; omega

/-- What must hold of what can be read of a packet. -/
def ReadsOk (p : ByteArray) (K M O S z i : Nat) (q : ByteArray) : Prop := mayB K M O S = true ∧ i < K + M ∧ q.size = z ∧ packB K M O S z i q = p

set_option maxRecDepth 100000 in
set_option maxHeartbeats 8000000 in
theorem rread_walk (p q : ByteArray) (K M O S z i : Nat) (w : World) (hp : 10 ≤ p.size ∧ p.size ≤ 25) (e1 : (byteAt p 1).toNat = K) (e2 : (byteAt p 2).toNat = M) (e3 : (byteAt p 3).toNat = O) (e4 : (byteAt p 4).toNat + 256 * (byteAt p 5).toNat = S) (e6 : (byteAt p 6).toNat = z) (e7 : (byteAt p 7).toNat = i) (eq : p.extract 8 (p.size - 1) = q) :
    Calls Tryz.prog 59 #[.string p] w fun e w' => ((ReadsOk p K M O S z i q → e = .returned (.tuple #[specV K M O S, .int .i64 (z : Int), .int .i64 (i : Int), .string q, .bool true])) ∧ (¬ ReadsOk p K M O S z i q → ∃ (a1 a2 a3 a4 b c : Int) (d : ByteArray), e = .returned (.tuple #[specV a1 a2 a3 a4, .int .i64 b, .int .i64 c, .string d, .bool false]))) ∧ Below w.heap.size w w' := by
  have g1 := byteAt_get p 1 (by omega)
  have g2 := byteAt_get p 2 (by omega)
  have g3 := byteAt_get p 3 (by omega)
  have g4 := byteAt_get p 4 (by omega)
  have g5 := byteAt_get p 5 (by omega)
  have g6 := byteAt_get p 6 (by omega)
  have g7 := byteAt_get p 7 (by omega)
  have b1 := (byteAt p 1).toNat_lt
  have b2 := (byteAt p 2).toNat_lt
  have b3 := (byteAt p 3).toNat_lt
  have b4 := (byteAt p 4).toNat_lt
  have b5 := (byteAt p 5).toNat_lt
  have b6 := (byteAt p 6).toNat_lt
  have b7 := (byteAt p 7).toNat_lt
  have i1 : (1 : Int) < (p.size : Int) := by omega
  have i2 : (2 : Int) < (p.size : Int) := by omega
  have i3 : (3 : Int) < (p.size : Int) := by omega
  have i4 : (4 : Int) < (p.size : Int) := by omega
  have i5 : (5 : Int) < (p.size : Int) := by omega
  have i6 : (6 : Int) < (p.size : Int) := by omega
  have i7 : (7 : Int) < (p.size : Int) := by omega
  have hor := or_high (byteAt p 4).toNat (byteAt p 5).toNat b4 b5
  have hl1 : ¬ (p.size : Int) < 10 := by omega
  have hl2 : ¬ (25 : Int) < (p.size : Int) := by omega
  have hqs : q.size = p.size - 9 := by rw [← eq, ByteArray.size_extract]; omega
  have HE := hide (And.intro e1 (And.intro e2 (And.intro e3 (And.intro e4 (And.intro e6 (And.intro e7 eq))))))
  have HB := hide hor
  clear e1 e2 e3 e4 e6 e7 eq hor
  go_enter Tryz.func59, Tryz.ntmps59
  go_wp2_with fail
  have hbA : Below w.heap.size w (w.alloc (.cells #[.int .i64 0, .int .i64 0, .int .i64 0, .int .i64 0] 25)) := (Below.refl _ _).alloc (Nat.le_refl _) _
  have hres : (w.alloc (.cells #[.int .i64 0, .int .i64 0, .int .i64 0, .int .i64 0] 25)).heap[w.heap.size]? = some (.cells #[.int .i64 0, .int .i64 0, .int .i64 0, .int .i64 0] 25 (0, 0)) := heap_alloc_new w _
  generalize w.alloc (.cells #[.int .i64 0, .int .i64 0, .int .i64 0, .int .i64 0] 25) = W at *
  go_region
  obtain ⟨e1, e2, e3, e4, e6, e7, eq⟩ := HE.out
  rw [HB.out, e4, e1, e2, e3]
  rw [e1] at b1
  rw [e2] at b2
  rw [e3] at b3
  rw [e6] at b6
  rw [e7] at b7
  have hS : S ≤ 65535 := by omega
  clear HB HE e1 e2 e3 e4
  have hspW : (W.alloc (specB K M O S)).drew.heap[W.heap.size]? = some (specB K M O S) := heap_alloc_new W _
  have hbW : Below w.heap.size w (W.alloc (specB K M O S)).drew := (hbA.alloc hbA.size _).drew
  have hresW : (W.alloc (specB K M O S)).drew.heap[w.heap.size]? = some (.cells #[.int .i64 0, .int .i64 0, .int .i64 0, .int .i64 0] 25 (0, 0)) := block_on hres ((Below.refl _ _).alloc (Nat.le_refl _) _).drew
  have hWn : w.heap.size ≠ W.heap.size := by have := (Array.getElem?_eq_some_iff.1 hres).1; omega
  generalize hWh : W.heap.size = h at *
  generalize hW1 : (W.alloc (specB K M O S)).drew = W1 at *
  clear hbA hres hW1 hWh
  obtain ⟨c0, c1, c2, c3⟩ := spec_cells hspW
  go_wp2_with fail
  refine (may_below K M O S _).mono ?_
  rintro e W2 ⟨rfl, hb2⟩
  have hsp2 := block_on hspW hb2
  have hres2 := block_on hresW hb2
  have hbw2 := hbW.trans (hb2.mono hbW.size)
  clear c0 c1 c2 c3 hspW hresW hbW hb2 g1 g2 g3 g4 g5 g6 g7
  obtain ⟨c0, c1, c2, c3⟩ := spec_cells hsp2
  have hf1 := setRow_heap _ _ _ #[.int .i64 (K : Int), .int .i64 (M : Int), .int .i64 (O : Int), .int .i64 (S : Int)] _ _ hres2
  have hf2 : Below w.heap.size w (W2.setRow w.heap.size #[.int .i64 (K : Int), .int .i64 (M : Int), .int .i64 (O : Int), .int .i64 (S : Int)]) := ((Chg.of_below hbw2 (fun _ => False)).setRow (Or.inl (Nat.le_refl _)) _).below (fun _ _ f => f)
  have hone := spec_one K M O S
  have Hf1 := hide hf1
  have Hf2 := hide hf2
  clear hf1 hf2
  by_cases hok : mayB K M O S = true ∧ i < K + M ∧ q.size = z
  · obtain ⟨hm, hi, hq⟩ := hok
    have hKK := mayB_true hm
    have hpk := fun W => packet_any K M O S z i q W (by omega) (by omega) (by omega) hS (by omega) (by omega) (by omega)
    have hio : (ReadsOk p K M O S z i q ↔ packB K M O S z i q = p) := ⟨fun h => h.2.2.2, fun h => ⟨hm, hi, hq, h⟩⟩
    have Hio := hide hio
    have hi2 : ¬ (K : Int) + (M : Int) ≤ (i : Int) := by omega
    have hq2 : ((q.size : Int) != (z : Int)) = false := by simp; omega
    rw [hm]
    clear hio Hf1 Hf2 hm hi hq hqs hKK
    go_wp2_with fail
    refine (hpk _).mono ?_
    rintro e W3 ⟨rfl, hb3⟩
    have hsp3 := block_on hsp2 hb3
    have hres3 := block_on hres2 hb3
    have hbw3 := hbw2.trans (hb3.mono hbw2.size)
    have hf1 := setRow_heap _ _ _ #[.int .i64 (K : Int), .int .i64 (M : Int), .int .i64 (O : Int), .int .i64 (S : Int)] _ _ hres3
    have hf2 : Below w.heap.size w (W3.setRow w.heap.size #[.int .i64 (K : Int), .int .i64 (M : Int), .int .i64 (O : Int), .int .i64 (S : Int)]) := ((Chg.of_below hbw3 (fun _ => False)).setRow (Or.inl (Nat.le_refl _)) _).below (fun _ _ f => f)
    clear c0 c1 c2 c3 hsp2 hres2 hbw2 hb3 hpk
    obtain ⟨c0, c1, c2, c3⟩ := spec_cells hsp3
    generalize packB K M O S z i q = pk at *
    have Hf1 := hide hf1
    have Hf2 := hide hf2
    clear hf1 hf2
    by_cases he : pk = p
    · have heb : (pk.toList == p.toList) = true := by rw [he]; simp
      have He := hide he
      clear he
      go_wp2_with (first | (refine wpList_store_row rfl 25 (.tmp 2) (.tmp 76) rfl w.heap.size #[.int .i64 (K : Int), .int .i64 (M : Int), .int .i64 (O : Int), .int .i64 (S : Int)] rfl rfl 25 #[.int .i64 0, .int .i64 0, .int .i64 0, .int .i64 0] hres3 Tryz.sizeSpecR rfl hone ?_))
      exact bodyPost_ret (results_read _ _ w.heap.size K M O S _ rfl Hf1.out) rfl ⟨⟨fun _ => rfl, fun h => absurd (Hio.out.2 He.out) h⟩, Hf2.out⟩
    · have heb := beq_bytes he
      have He := hide he
      clear he
      go_wp2_with (first | (refine wpList_store_row rfl 25 (.tmp 2) (.tmp 76) rfl w.heap.size #[.int .i64 (K : Int), .int .i64 (M : Int), .int .i64 (O : Int), .int .i64 (S : Int)] rfl rfl 25 #[.int .i64 0, .int .i64 0, .int .i64 0, .int .i64 0] hres3 Tryz.sizeSpecR rfl hone ?_))
      exact bodyPost_ret (results_read _ _ w.heap.size K M O S _ rfl Hf1.out) rfl ⟨⟨fun h => absurd (Hio.out.1 h) He.out, fun _ => ⟨_, _, _, _, _, _, _, rfl⟩⟩, Hf2.out⟩
  · have hno : ¬ ReadsOk p K M O S z i q := fun h => hok ⟨h.1, h.2.1, h.2.2.1⟩
    have Hno := hide hno
    have hor : mayB K M O S = false ∨ (mayB K M O S = true ∧ (K : Int) + (M : Int) ≤ (i : Int)) ∨ (mayB K M O S = true ∧ ¬ (K : Int) + (M : Int) ≤ (i : Int) ∧ ((q.size : Int) != (z : Int)) = true) := by
      cases hm : mayB K M O S with
      | false => exact Or.inl rfl
      | true =>
        by_cases hi : i < K + M
        · exact Or.inr (Or.inr ⟨rfl, by omega, by simp; intro e; exact hok ⟨hm, hi, by omega⟩⟩)
        · exact Or.inr (Or.inl ⟨rfl, by omega⟩)
    clear hno hok hqs
    rcases hor with hm | ⟨hm, hi⟩ | ⟨hm, hi, hq⟩
    all_goals
      rw [hm]
      go_wp2_with (first | (refine wpList_store_row rfl 25 (.tmp 2) (.tmp 70) rfl w.heap.size #[.int .i64 (K : Int), .int .i64 (M : Int), .int .i64 (O : Int), .int .i64 (S : Int)] rfl rfl 25 #[.int .i64 0, .int .i64 0, .int .i64 0, .int .i64 0] hres2 Tryz.sizeSpecR rfl hone ?_))
      exact bodyPost_ret (results_read _ _ w.heap.size K M O S _ rfl Hf1.out) rfl ⟨⟨fun h => absurd h Hno.out, fun _ => ⟨_, _, _, _, _, _, _, rfl⟩⟩, Hf2.out⟩

end Go.Proofs.YtnjaofkieajnlaaGreat
