/- The statement's own 'made', where a box is made. -/
import Derived.Test.YtnjaofkieajnlaaGreatWorld1
namespace Go.Proofs.YtnjaofkieajnlaaGreat
open Go.RowKit

set_option maxRecDepth 100000 in
set_option maxHeartbeats 8000000 in
theorem made_ok (w0 : World) (wb : Nat) (bsv : Value) (bl : List PB) (k b c : Int) (K M O S z : Nat) (s : ByteArray) (lv : Value) (w : World) (hat : BoxesAt w0 w wb bsv bl) (hl : bl.length ≤ 4000000000000) (hK : 1 ≤ K ∧ K ≤ 20) (hM : 1 ≤ M ∧ M ≤ 20) (hO : 1 ≤ O ∧ O ≤ M) (hS : S ≤ 65535) (hz : 1 ≤ z ∧ z ≤ 16) :
    Calls Tryz.prog 11 #[.pointer (some ⟨wb, 0, none⟩), .agg (opC k z b c K M O S s lv)] w fun e w' => e = .returned (.bool true) ∧ ∃ bsv' bl', BoxesAt w0 w' wb bsv' bl' ∧ bl'.length = bl.length + 1 := by
  have hnew := fun W => new_ok K M O S z W hK hM hO hS hz
  have hma := fun W => may_below K M O S W
  have hmay : mayB K M O S = true := by simp [mayB]; omega
  rw [hmay] at hma
  obtain ⟨i0, hii, hz0, hz1, hz2⟩ := info_parts Tryz.infoPair
  have hat1 := hat.on ((Below.refl _ _).alloc (Nat.le_refl _) (.cells (opC k z b c K M O S s lv) 29))
  have hop : (w.alloc (.cells (opC k z b c K M O S s lv) 29)).heap[w.heap.size]? = some (.cells (opC k z b c K M O S s lv) 29 (0, 0)) := heap_alloc_new w _
  go_enter Tryz.func11, Tryz.ntmps11
  go_wp2_with fail
  refine (hnew _).mono ?_
  rintro e w1 ⟨p, rfl, hbox, hp, hb1⟩
  have hat2 := hat1.on hb1
  have hop1 := block_on hop hb1
  obtain ⟨c0, c1, c2, c4, c5, c6, c7, c8⟩ := op_cells hop1
  have hpd : ∀ i, i < bl.length → ¬ (bl.getD i PB.none).fp p := fun i hi h => by
    have h1 := (hat1.each i hi).lt h
    omega
  have hp0 : w0.heap.size ≤ p := by have := hat1.below.size; omega
  clear hat1 hop hat hb1 hnew hp
  go_wp2_with fail
  refine (hma _).mono ?_
  rintro e w2 ⟨rfl, hb2⟩
  have hat3 := hat2.on hb2
  have hop2 := block_on hop1 hb2
  have hbox2 := hbox.on (Nat.le_refl _) hb2
  clear c0 c1 c2 c4 c5 c6 c7 c8 hat2 hop1 hb2 hma hbox
  obtain ⟨c0, c1, c2, c4, c5, c6, c7, c8⟩ := op_cells hop2
  have hcb : w2.cell? ⟨wb, 6, none⟩ = some bsv := by rw [cell_of_row _ _ _ _ _ _ hat3.world]; rfl
  have hfb := found_frozen hat3.world 6
  have z1 : ¬ (z : Int) < 1 := by omega
  have z2 : ¬ (16 : Int) < (z : Int) := by omega
  have hwl := hat3.lt
  have hopl : w.heap.size < w2.heap.size := (Array.getElem?_eq_some_iff.1 hop2).1
  have hbw : bsv.ownBlock ≠ some wb := owns_other hat3.own hat3.world (by decide)
  have hsp : SpecOk K M O S z := ⟨hK, hM, hO, hS, hz⟩
  have hA := hat3.on ((Below.refl _ _).alloc (Nat.le_refl _) (rboxB K M O S z (.slice none 0 0) (.slice none 0 0)))
  have hpair : PairAt (w2.alloc (rboxB K M O S z (.slice none 0 0) (.slice none 0 0))) ⟨p, w2.heap.size, K, M, O, S, z, kn0, [], .slice none 0 0, .slice none 0 0⟩ :=
    ⟨hsp, Rel.new K M O S z, by show 0 + openK kn0 K = K; rw [openK_kn0, Nat.zero_add], hbox2.on (Nat.le_refl _) ((Below.refl _ _).alloc (Nat.le_refl _) _), ⟨heap_alloc_new w2 _, World.ownsRow_nil _ _ _ _, World.ownsRow_nil _ _ _ _⟩, fun _ => ⟨rfl, rfl⟩⟩
  have hfpb : ∀ x, (PB.fp ⟨p, w2.heap.size, K, M, O, S, z, kn0, [], .slice none 0 0, .slice none 0 0⟩ x) → x = p ∨ x = w2.heap.size := fun x hx => by
    rcases hx with hx | hx | hx | hx
    · exact Or.inl hx
    · exact Or.inr hx
    · simp [Value.ownBlock] at hx
    · simp [Value.ownBlock] at hx
  have hfin : ∀ g cap w3, w3.ownsRow 0 72 2 (.slice (some ⟨g, 0, none⟩) (bl.length + 1) cap) (bl.length + 1) (pairV bl ++ [.pointer (some ⟨p, 0, none⟩), .pointer (some ⟨w2.heap.size, 0, none⟩)]) → (w2.alloc (rboxB K M O S z (.slice none 0 0) (.slice none 0 0))).grownBy w3 bsv.ownBlock → (bsv.ownBlock = some g ∨ g = w2.heap.size + 1 + 1) →
      ∃ bsv' bl', BoxesAt w0 (w3.setCell ⟨wb, 6, none⟩ (.slice (some ⟨g, 0, none⟩) (bl.length + 1) cap)) wb bsv' bl' ∧ bl'.length = bl.length + 1 := fun g cap w3 ho hg ha => by
    refine ⟨_, bl ++ [⟨p, w2.heap.size, K, M, O, S, z, kn0, [], .slice none 0 0, .slice none 0 0⟩], hA.snoc hpair (fun i hi x hx hx2 => ?_) (fun x hx => ?_) hg (by rw [pairV_append]; exact ho) rfl ?_, by simp⟩
    · rcases hfpb x hx2 with rfl | rfl
      · exact hpd i hi hx
      · have := (hat3.each i hi).lt hx
        omega
    · rcases hfpb x hx with rfl | rfl
      · exact hp0
      · exact hat3.below.size
    · rcases ha with h | h
      · exact Or.inl h
      · right; simp; omega
  have HF := hide hfin
  have hown0 := hat3.own
  clear hfin hfpb hpair hA hpd hbox2 hp0 hsp
  go_wp2_with fail
  go_region_law ((refine step_append_lies _ (by rfl) (.tmp 48) (.tmp 57) 33 (by rfl) 0 72 i0 (.agg #[.pointer none, .pointer none]) 2 16 Tryz.underlying33 hii hz0 hz1 hz2 rfl (by decide) _ _ _ (by rfl) (World.ownsRow.drew (World.ownsRow.alloc (World.ownsRow.alloc hown0 _) _)) ⟨w2.heap.size + 1, 0, none⟩ 1 1 [.pointer (some ⟨p, 0, none⟩), .pointer (some ⟨w2.heap.size, 0, none⟩)] (by rfl) rfl (World.news_of_block (cs := #[_, _]) (heap_alloc2 w2 _ _)) (by intro u hu; simp at hu; rcases hu with rfl | rfl <;> rfl) (by decide) (by unfold maxLen; omega) (by omega) (Nat.zero_le _) (w2.heap.size + 1 + 1) (by simp) ?_; intro g cap w3 hown3 hgr3 hat4 hlt3; have hgr := grownBy_of_alloc (grownBy_of_alloc (grownBy_of_drew hgr3)); have q6 := (hgr.cell_far ⟨wb, 6, none⟩ hwl (fun e => hbw e.symm)).trans hcb; have f6 := (hgr.frozen_far ⟨wb, 6, none⟩ hwl (fun e => hbw e.symm)).trans hfb))
  all_goals
    have hend := HF.out g cap w3 hown3 (grownBy_of_alloc (grownBy_of_drew hgr3)) hat4
    clear HF hown3 hgr3 hgr hat4 q6 f6 hat3 hop2 hown0 c0 c1 c2 c4 c5 c6 c7 c8 hcb hfb
    go_wp2_with fail
    go_ret
    exact ⟨rfl, hend⟩

end Go.Proofs.YtnjaofkieajnlaaGreat
