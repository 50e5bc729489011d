/- Texts of the proof, part 30. -/
import Derived.Test.YtnjaofkieajnlaaGreatAlluptoG14
import Derived.Test.YtnjaofkieajnlaaGreatAlluptoG21
import Derived.Test.YtnjaofkieajnlaaGreatAlluptoG28

/- The statement's own 'step' and 'plays' over the calls of boxes; the statement Boxes. -/
namespace Go.Proofs.YtnjaofkieajnlaaGreat
open Go.RowKit

theorem made_any (w0 : World) (wb : Nat) (bsv : Value) (bl : List PB) (k a b c K M O S : Int) (s : ByteArray) (lv : Value) (w : World) (hat : BoxesAt w0 w wb bsv bl) (hl : bl.length ≤ 4000000000000) :
    Calls Tryz.prog 11 #[.pointer (some ⟨wb, 0, none⟩), .agg (opC k a b c K M O S s lv)] w fun e w' => e = .returned (.bool true) ∧ ∃ bsv' bl', BoxesAt w0 w' wb bsv' bl' ∧ bl'.length ≤ bl.length + 1 := by
  cases hm : mayB K M O S
  · exact (made_bad w0 wb bsv bl k a b c K M O S s lv w hat hm).mono fun e w' h => ⟨h.1, bsv, bl, h.2, Nat.le_succ _⟩
  · obtain ⟨h1, h2, h3, h4, h5, h6, h7, h8⟩ := mayB_true hm
    obtain ⟨K, rfl⟩ := Int.eq_ofNat_of_zero_le (show 0 ≤ K by omega)
    obtain ⟨M, rfl⟩ := Int.eq_ofNat_of_zero_le (show 0 ≤ M by omega)
    obtain ⟨O, rfl⟩ := Int.eq_ofNat_of_zero_le (show 0 ≤ O by omega)
    obtain ⟨S, rfl⟩ := Int.eq_ofNat_of_zero_le (show 0 ≤ S by omega)
    by_cases ha : a < 1 ∨ 16 < a
    · exact (made_arg w0 wb bsv bl k a b c K M O S s lv w hat (by omega) (by omega) (by omega) (by omega) ha).mono fun e w' h => ⟨h.1, bsv, bl, h.2, Nat.le_succ _⟩
    · obtain ⟨z, rfl⟩ := Int.eq_ofNat_of_zero_le (show 0 ≤ a by omega)
      refine (made_ok w0 wb bsv bl k b c K M O S z s lv w hat hl (by omega) (by omega) (by omega) (by omega) (by omega)).mono fun e w' h => ?_
      obtain ⟨he, bsv', bl', h1, h2⟩ := h
      exact ⟨he, bsv', bl', h1, by omega⟩

set_option maxRecDepth 100000 in
set_option maxHeartbeats 8000000 in
theorem step_any (w0 : World) (wb : Nat) (bsv : Value) (bl : List PB) (k a b c K M O S : Int) (s : ByteArray) (lv : Value) (w : World) (hat : BoxesAt w0 w wb bsv bl) (hl : bl.length ≤ 4000000000000) (ha1 : -9223372036854775808 ≤ a) (ha2 : a ≤ 9223372036854775807) (hk : 1 ≤ k ∧ k ≤ 4) :
    Calls Tryz.prog 9 #[.pointer (some ⟨wb, 0, none⟩), .agg (opC k a b c K M O S s lv)] w fun e w' => e = .returned (.bool true) ∧ ∃ bsv' bl', BoxesAt w0 w' wb bsv' bl' ∧ bl'.length ≤ bl.length + 1 := by
  have hat1 := hat.on ((Below.refl _ _).alloc (Nat.le_refl _) (.cells (opC k a b c K M O S s lv) 29))
  have hop : (w.alloc (.cells (opC k a b c K M O S s lv) 29)).heap[w.heap.size]? = some (.cells (opC k a b c K M O S s lv) 29 (0, 0)) := heap_alloc_new w _
  go_enter Tryz.func9, Tryz.ntmps9
  by_cases h1 : k = 1
  · subst h1
    go_wp2_with fail
    refine (made_any w0 wb bsv bl 1 a b c K M O S s lv _ hat1 hl).mono ?_
    rintro e w1 ⟨rfl, hend⟩
    clear hat hat1 hop
    go_wp2_with fail
    go_ret
    exact ⟨rfl, hend⟩
  · have hk2 : k = 2 ∨ k = 3 ∨ k = 4 := by omega
    have hbx := boxed_any w0 wb bsv bl k a b c K M O S s lv _ hat1 ha1 ha2 hk2
    rcases hk2 with rfl | rfl | rfl
    all_goals
      go_wp2_with fail
      refine hbx.mono ?_
      rintro e w1 ⟨rfl, bl', h2, h3⟩
      clear hat hat1 hop hbx
      go_wp2_with fail
      go_ret
      exact ⟨rfl, bsv, bl', h2, by omega⟩

end Go.Proofs.YtnjaofkieajnlaaGreat

namespace Go.Proofs.YtnjaofkieajnlaaGreat
open Go.RowKit

set_option maxRecDepth 100000 in
set_option maxHeartbeats 8000000 in
theorem plays_any (v : Value) (l : List OpR) (lv0 : Value) (w : World) (hl : l.length ≤ 1400000000000) (hat : OpsAt w v l) :
    Calls Tryz.prog 7 #[v, .agg (opC 1 2 0 0 2 2 1 0 ⟨#[]⟩ lv0), .int .i64 1, .int .i64 4] w fun e w' => e = .returned (.bool true) ∧ Below w.heap.size w w' := by
  obtain ⟨ao, cap, rfl, hcap, hops⟩ := hat
  have HO := hide hops
  clear hops
  have hop : (w.alloc (.cells (opC 1 2 0 0 2 2 1 0 ⟨#[]⟩ lv0) 29)).heap[w.heap.size]? = some (.cells (opC 1 2 0 0 2 2 1 0 ⟨#[]⟩ lv0) 29 (0, 0)) := heap_alloc_new w _
  go_enter Tryz.func7, Tryz.ntmps7
  go_wp2_with fail
  have hbA : Below w.heap.size w ((w.alloc (.cells (opC 1 2 0 0 2 2 1 0 ⟨#[]⟩ lv0) 29)).alloc (worldB (.slice none 0 0))) := ((Below.refl _ _).alloc (Nat.le_refl _) _).alloc (by simp) _
  have hbx : BoxesAt w ((w.alloc (.cells (opC 1 2 0 0 2 2 1 0 ⟨#[]⟩ lv0) 29)).alloc (worldB (.slice none 0 0))) (w.heap.size + 1) (.slice none 0 0) [] :=
    ⟨heap_alloc2 w _ _, World.ownsRow_nil _ _ _ _, fun i hi => by simp at hi, fun i j hi => by simp at hi, Nat.le_succ _, fun k hk => by simp [Value.ownBlock] at hk, fun i hi => by simp at hi, hbA⟩
  refine (step_any w (w.heap.size + 1) (.slice none 0 0) [] 1 2 0 0 2 2 1 0 ⟨#[]⟩ lv0 _ hbx (by simp) (by decide) (by decide) (by decide)).mono ?_
  rintro e w1 ⟨rfl, bsv, bl, hb1, hb1l⟩
  clear hbA hbx hop
  go_wp2_with fail
  go_loopw [10, 11] (fun ov iv wr => ∃ (n : Nat) (bsv : Value) (bl : List PB), n ≤ l.length ∧ ov = .bool true ∧ iv = .int .i64 (n : Int) ∧ BoxesAt w wr (w.heap.size + 1) bsv bl ∧ bl.length ≤ n + 1) (fun _ iv _ => l.length - (intOf iv).toNat)
  case atStart => exact ⟨0, bsv, bl, Nat.zero_le _, rfl, rfl, hb1, by simpa using hb1l⟩
  case round =>
    clear hb1 hb1l
    obtain ⟨n, bsv, bl, hn, rfl, rfl, hbx, hbl⟩ := hrel
    by_cases hlt : n < l.length
    · obtain ⟨q, o, rfl, hq, hr, a1, a2⟩ := HO.out n hlt
      have hr1 := range_below hr hbx.below hq
      have hk0 := hr1 0 (.int .i64 (l.getD n OpR.none).k) rfl
      rw [Nat.add_zero] at hk0
      have hi : (Tryz.prog.info? 29).map (·.size) = some (l.getD n OpR.none).cells.length := Tryz.sizeOp
      have i1 : (0 : Int) ≤ (n : Int) := by omega
      have i2 : (n : Int) < (l.length : Int) := by omega
      have hce : (l.getD n OpR.none).cells.toArray = opC (l.getD n OpR.none).k (l.getD n OpR.none).a (l.getD n OpR.none).b (l.getD n OpR.none).c (l.getD n OpR.none).K (l.getD n OpR.none).M (l.getD n OpR.none).O (l.getD n OpR.none).S (l.getD n OpR.none).s (l.getD n OpR.none).lv := rfl
      clear hr
      generalize l.getD n OpR.none = R at *
      by_cases k1 : (1 : Int) ≤ R.k
      · have d1 : decide ((1 : Int) ≤ R.k) = true := decide_eq_true k1
        by_cases k2 : R.k ≤ 4
        · have hst := step_any w (w.heap.size + 1) bsv bl R.k R.a R.b R.c R.K R.M R.O R.S R.s R.lv wr hbx (by omega) a1 a2 ⟨k1, k2⟩
          rw [← hce] at hst
          have Hce := hide hce
          clear hce
          generalize hcs : R.cells = cs at *
          have Hcs := hide hcs
          clear hcs
          go_wp2_with (refine wpList_load_mid rfl 29 (.tmp 43) rfl q (o + n * 10) rfl cs _ hr1 Tryz.underlying29 rfl hi ?_)
          refine hst.mono ?_
          rintro e w2 ⟨rfl, bsv', bl', h2, h3⟩
          clear hst hbx hr1 hk0 hi
          go_wp2_with fail
          go_roundw
          case rel => exact ⟨n + 1, bsv', bl', by omega, rfl, by go_num, h2, by omega⟩
          case measure => simp [intOf]; omega
        · clear hce hi hr1
          go_wp2_with fail
          go_roundw
          case rel => exact ⟨n + 1, bsv, bl, by omega, rfl, by go_num, hbx, by omega⟩
          case measure => simp [intOf]; omega
      · have d1 : decide ((1 : Int) ≤ R.k) = false := decide_eq_false k1
        clear hce hi hr1
        go_wp2_with fail
        go_roundw
        case rel => exact ⟨n + 1, bsv, bl, by omega, rfl, by go_num, hbx, by omega⟩
        case measure => simp [intOf]; omega
    · go_wp2_with fail
      go_ret
      exact ⟨rfl, hbx.below⟩

end Go.Proofs.YtnjaofkieajnlaaGreat

namespace Go.Proofs.YtnjaofkieajnlaaGreat
open Go.RowKit

theorem Tryz.sizeSpec : (Tryz.prog.info? 25).map (·.size) = some 4 := by kernel_rfl

set_option maxRecDepth 100000 in
set_option maxHeartbeats 4000000 in
theorem small_any (w : World) :
    Calls Tryz.prog 8 #[] w fun e w' => e = .returned (specV 2 2 1 0) ∧ Below w.heap.size w w' := by
  go_enter Tryz.func8, Tryz.ntmps8
  go_wp2_with fail
  refine bodyPost_ret (v := specV 2 2 1 0) (results_cell_row Tryz.results8 _ _ w.heap.size 25 _ (0, 0) _ rfl (heap_alloc_new w _) Tryz.underlying25 rfl Tryz.sizeSpec) rfl ⟨rfl, (Below.refl _ _).alloc (Nat.le_refl _) _⟩

set_option maxRecDepth 100000 in
set_option maxHeartbeats 4000000 in
theorem boxes_any (v : Value) (l : List OpR) (w : World) (hl : l.length ≤ 1400000000000) (hat : OpsAt w v l) :
    Calls Tryz.prog 3 #[v] w fun e w' => e = .returned (.bool true) ∧ Below w.heap.size w w' := by
  go_enter Tryz.func3, Tryz.ntmps3
  go_wp2_with fail
  refine (small_any _).mono ?_
  rintro e w1 ⟨rfl, hb1⟩
  have hat1 : OpsAt w1 v l := by
    obtain ⟨ao, cap, h1, h2, h3⟩ := hat
    refine ⟨ao, cap, h1, h2, fun i hi => ?_⟩
    obtain ⟨q, o, g1, g2, g3, g4, g5⟩ := h3 i hi
    exact ⟨q, o, g1, Nat.lt_of_lt_of_le g2 hb1.size, range_below g3 hb1 g2, g4, g5⟩
  go_wp2_with fail
  refine (plays_any v l _ _ hl hat1).mono ?_
  rintro e w2 ⟨rfl, hb2⟩
  go_wp2_with fail
  go_ret
  exact ⟨rfl, hb1.trans (hb2.mono hb1.size)⟩

end Go.Proofs.YtnjaofkieajnlaaGreat

/- Pairs of boxes as a sort of pairs, in a world that holds other things too: 'made' and 'boxed' anew. -/
namespace Go.Proofs.YtnjaofkieajnlaaGreat
open Go.RowKit

def boxK : Kind PB where
  no := PB.none
  p := PB.p
  r := PB.r
  fp := PB.fp
  lies := PairAt
  lt := fun h hk => h.lt hk
  blocks := fun h hb => h.blocks hb

/-- Pairs of boxes in a world that has turned from w0 in its own block and in blocks of S0 only. -/
structure BX (S0 : Nat → Prop) (f : Nat → Value) (w0 w : World) (wb : Nat) (bsv : Value) (bl : List PB) : Prop where
  row : w.rowIs wb 39 14 (fun i => if i = 6 then bsv else f i)
  pairs : PairsAt boxK w 72 bsv bl
  chg : Chg (fun k => k = wb ∨ S0 k) w0 w
  new : ∀ k, pfp boxK bsv bl k → S0 k ∨ w0.heap.size ≤ k
  nw : ¬ S0 wb
  wl : wb < w0.heap.size

namespace BX
variable {S0 : Nat → Prop} {f : Nat → Value} {w0 w w' : World} {wb : Nat} {bsv : Value} {bl : List PB}

theorem lt (h : BX S0 f w0 w wb bsv bl) : wb < w.heap.size := h.row.lt

theorem own (h : BX S0 f w0 w wb bsv bl) : w.ownsRow 0 72 2 bsv bl.length (boxK.vals bl) := h.pairs.own

theorem each (h : BX S0 f w0 w wb bsv bl) : ∀ i, i < bl.length → PairAt w (bl.getD i PB.none) := h.pairs.each

theorem notw (h : BX S0 f w0 w wb bsv bl) : ¬ pfp boxK bsv bl wb := fun hk => by
  rcases h.new wb hk with h1 | h1
  · exact h.nw h1
  · have := h.wl; omega

theorem cell6 (h : BX S0 f w0 w wb bsv bl) : w.cell? ⟨wb, 6, none⟩ = some bsv := h.row.cell (i := 6) (by omega)

theorem on (h : BX S0 f w0 w wb bsv bl) (hb : Below w.heap.size w w') : BX S0 f w0 w' wb bsv bl :=
  ⟨h.row.of_block (hb.block wb h.lt), h.pairs.on hb, h.chg.trans (Chg.of_below hb (fun _ => False)) (fun _ _ x => x.elim), h.new, h.nw, h.wl⟩

theorem cells (h : BX S0 f w0 w wb bsv bl) {j : Nat} (hj : j < bl.length) : ∃ g cap, bsv = .slice (some ⟨g, 0, none⟩) bl.length cap ∧ g < w.heap.size ∧ w.cell? ⟨g, j * 2, none⟩ = some (.pointer (some ⟨(bl.getD j PB.none).p, 0, none⟩)) ∧ w.cell? ⟨g, j * 2 + 1, none⟩ = some (.pointer (some ⟨(bl.getD j PB.none).r, 0, none⟩)) := h.pairs.cells hj

/-- One pair has turned. -/
theorem update (h : BX S0 f w0 w wb bsv bl) {i : Nat} (hi : i < bl.length) {b : PB} (hc : Chg (bl.getD i PB.none).fp w w') (hp : PairAt w' b) (e1 : b.p = (bl.getD i PB.none).p) (e2 : b.r = (bl.getD i PB.none).r) (hn : ∀ k, b.fp k → (bl.getD i PB.none).fp k ∨ w.heap.size ≤ k) : BX S0 f w0 w' wb bsv (bl.set i b) := by
  have hs := h.chg.size
  obtain ⟨u1, u2, u3⟩ := h.pairs.update hi (b := b) hc hp e1 e2 hn
  refine ⟨h.row.of_block (u2.block wb h.lt h.notw), u1, h.chg.trans u2 (fun k hk x => ?_), fun k hk => ?_, h.nw, h.wl⟩
  · rcases h.new k x with h1 | h1
    · exact Or.inr h1
    · omega
  · rcases u3 k hk with h1 | h1
    · exact h.new k h1
    · right; omega

/-- One pair more. -/
theorem snoc {w3 : World} (h : BX S0 f w0 w wb bsv bl) {b : PB} {g cap n : Nat} (hp : PairAt w b) (hd : ∀ k, b.fp k → ¬ pfp boxK bsv bl k) (hn : ∀ k, b.fp k → w0.heap.size ≤ k) (hg : w.grownBy w3 bsv.ownBlock) (hown : w3.ownsRow 0 72 2 (.slice (some ⟨g, 0, none⟩) n cap) n (boxK.vals (bl ++ [b]))) (hl : n = bl.length + 1) (hat : bsv.ownBlock = some g ∨ w.heap.size ≤ g) :
    BX S0 f w0 (w3.setCell ⟨wb, 6, none⟩ (.slice (some ⟨g, 0, none⟩) n cap)) wb (.slice (some ⟨g, 0, none⟩) n cap) (bl ++ [b]) := by
  have hs := h.chg.size
  have hwl := h.wl
  obtain ⟨u1, u2⟩ := h.pairs.snoc (b := b) hp hd hg hown hl hat
  have hnew : ∀ k, pfp boxK (.slice (some ⟨g, 0, none⟩) n cap) (bl ++ [b]) k → S0 k ∨ w0.heap.size ≤ k := fun k hk => by
    rcases u2 k hk with h1 | h1 | h1
    · exact h.new k h1
    · exact Or.inr (hn k h1)
    · right; omega
  have hnw : ¬ pfp boxK (.slice (some ⟨g, 0, none⟩) n cap) (bl ++ [b]) wb := fun x => by
    rcases hnew wb x with h1 | h1
    · exact h.nw h1
    · omega
  have hbw : bsv.ownBlock ≠ some wb := fun e => h.notw (Or.inl e)
  have hrow3 := h.row.of_block (hg.block wb h.lt (fun e => hbw e.symm))
  refine ⟨(hrow3.set 6 _).congr (fun i _ => ?_), u1.blocks (fun k hk => heap_setCell_other _ _ _ _ (by rintro rfl; exact hnw hk)), (h.chg.grown hg (fun k e => ?_)).setCell (a := ⟨wb, 6, none⟩) (Or.inr (Or.inl rfl)) _, hnew, h.nw, h.wl⟩
  · by_cases e : i = 6
    · rw [if_pos e, if_pos e]
    · rw [if_neg e, if_neg e, if_neg e]
  · rcases h.new k (Or.inl e.symm.symm) with h1 | h1
    · exact Or.inr (Or.inr h1)
    · exact Or.inl h1

end BX

set_option maxRecDepth 100000 in
set_option maxHeartbeats 8000000 in
theorem xmade_bad (S0 : Nat → Prop) (f : Nat → Value) (w0 : World) (wb : Nat) (bsv : Value) (bl : List PB) (k a b c K M O S : Int) (s : ByteArray) (lv : Value) (w : World) (hat : BX S0 f w0 w wb bsv bl) (hm : mayB K M O S = false) :
    Calls Tryz.prog 11 #[.pointer (some ⟨wb, 0, none⟩), .agg (opC k a b c K M O S s lv)] w fun e w' => e = .returned (.bool true) ∧ BX S0 f w0 w' wb bsv bl := by
  have hnew := fun W => new_bad K M O S a W hm
  have hma := fun W => may_below K M O S W
  have hmay : mayB K M O S = false := hm
  rw [hmay] at hma
  have hat1 := hat.on ((Below.refl _ _).alloc (Nat.le_refl _) (.cells (opC k a b c K M O S s lv) 29))
  have hop : (w.alloc (.cells (opC k a b c K M O S s lv) 29)).heap[w.heap.size]? = some (.cells (opC k a b c K M O S s lv) 29 (0, 0)) := heap_alloc_new w _
  go_enter Tryz.func11, Tryz.ntmps11
  go_wp2_with fail
  refine (hnew _).mono ?_
  rintro e w1 ⟨rfl, hb1⟩
  have hat2 := hat1.on hb1
  have hop1 := block_on hop hb1
  obtain ⟨c0, c1, c2, c4, c5, c6, c7, c8⟩ := op_cells hop1
  clear hat1 hop hat hb1 hnew
  go_wp2_with fail
  refine (hma _).mono ?_
  rintro e w2 ⟨rfl, hb2⟩
  have hat3 := hat2.on hb2
  have hop2 := block_on hop1 hb2
  clear c0 c1 c2 c4 c5 c6 c7 c8 hat2 hop1 hb2 hma
  obtain ⟨c0, c1, c2, c4, c5, c6, c7, c8⟩ := op_cells hop2
  go_wp2_with fail
  go_ret
  exact ⟨rfl, hat3⟩

set_option maxRecDepth 100000 in
set_option maxHeartbeats 8000000 in
theorem xmade_arg (S0 : Nat → Prop) (f : Nat → Value) (w0 : World) (wb : Nat) (bsv : Value) (bl : List PB) (k a b c : Int) (K M O S : Nat) (s : ByteArray) (lv : Value) (w : World) (hat : BX S0 f w0 w wb bsv bl) (hK : 1 ≤ K ∧ K ≤ 20) (hM : 1 ≤ M ∧ M ≤ 20) (hO : 1 ≤ O ∧ O ≤ M) (hS : S ≤ 65535) (hz : a < 1 ∨ 16 < a) :
    Calls Tryz.prog 11 #[.pointer (some ⟨wb, 0, none⟩), .agg (opC k a b c K M O S s lv)] w fun e w' => e = .returned (.bool true) ∧ BX S0 f w0 w' wb bsv bl := by
  have hnew := fun W => new_arg K M O S a W hK hM hO hS hz
  have hma := fun W => may_below K M O S W
  have hmay : mayB K M O S = true := by simp [mayB]; omega
  rw [hmay] at hma
  have hat1 := hat.on ((Below.refl _ _).alloc (Nat.le_refl _) (.cells (opC k a b c K M O S s lv) 29))
  have hop : (w.alloc (.cells (opC k a b c K M O S s lv) 29)).heap[w.heap.size]? = some (.cells (opC k a b c K M O S s lv) 29 (0, 0)) := heap_alloc_new w _
  go_enter Tryz.func11, Tryz.ntmps11
  go_wp2_with fail
  refine (hnew _).mono ?_
  rintro e w1 ⟨rfl, hb1⟩
  have hat2 := hat1.on hb1
  have hop1 := block_on hop hb1
  obtain ⟨c0, c1, c2, c4, c5, c6, c7, c8⟩ := op_cells hop1
  clear hat1 hop hat hb1 hnew
  go_wp2_with fail
  refine (hma _).mono ?_
  rintro e w2 ⟨rfl, hb2⟩
  have hat3 := hat2.on hb2
  have hop2 := block_on hop1 hb2
  clear c0 c1 c2 c4 c5 c6 c7 c8 hat2 hop1 hb2 hma
  obtain ⟨c0, c1, c2, c4, c5, c6, c7, c8⟩ := op_cells hop2
  by_cases ha : a < 1
  · have hd : decide (a < 1) = true := decide_eq_true ha
    go_wp2_with fail
    go_ret
    exact ⟨rfl, hat3⟩
  · have hd : decide (a < 1) = false := decide_eq_false ha
    have hd2 : (16 : Int) < a := by omega
    go_wp2_with fail
    go_ret
    exact ⟨rfl, hat3⟩

set_option maxRecDepth 100000 in
set_option maxHeartbeats 8000000 in
theorem xmade_ok (S0 : Nat → Prop) (f : Nat → Value) (w0 : World) (wb : Nat) (bsv : Value) (bl : List PB) (k b c : Int) (K M O S z : Nat) (s : ByteArray) (lv : Value) (w : World) (hat : BX S0 f w0 w wb bsv bl) (hl : bl.length ≤ 4000000000000) (hK : 1 ≤ K ∧ K ≤ 20) (hM : 1 ≤ M ∧ M ≤ 20) (hO : 1 ≤ O ∧ O ≤ M) (hS : S ≤ 65535) (hz : 1 ≤ z ∧ z ≤ 16) :
    Calls Tryz.prog 11 #[.pointer (some ⟨wb, 0, none⟩), .agg (opC k z b c K M O S s lv)] w fun e w' => e = .returned (.bool true) ∧ ∃ bsv' bl', BX S0 f w0 w' wb bsv' bl' ∧ bl'.length = bl.length + 1 := by
  have hnew := fun W => new_ok K M O S z W hK hM hO hS hz
  have hma := fun W => may_below K M O S W
  have hmay : mayB K M O S = true := by simp [mayB]; omega
  rw [hmay] at hma
  obtain ⟨i0, hii, hz0, hz1, hz2⟩ := info_parts Tryz.infoPair
  have hat1 := hat.on ((Below.refl _ _).alloc (Nat.le_refl _) (.cells (opC k z b c K M O S s lv) 29))
  have hop : (w.alloc (.cells (opC k z b c K M O S s lv) 29)).heap[w.heap.size]? = some (.cells (opC k z b c K M O S s lv) 29 (0, 0)) := heap_alloc_new w _
  go_enter Tryz.func11, Tryz.ntmps11
  go_wp2_with fail
  refine (hnew _).mono ?_
  rintro e w1 ⟨p, rfl, hbox, hp, hb1⟩
  have hat2 := hat1.on hb1
  have hop1 := block_on hop hb1
  obtain ⟨c0, c1, c2, c4, c5, c6, c7, c8⟩ := op_cells hop1
  have hpd : ¬ pfp boxK bsv bl p := fun h => by
    have h1 := hat1.pairs.lt h
    omega
  have hp0 : w0.heap.size ≤ p := by have := hat1.chg.size; omega
  clear hat1 hop hat hb1 hnew hp
  go_wp2_with fail
  refine (hma _).mono ?_
  rintro e w2 ⟨rfl, hb2⟩
  have hat3 := hat2.on hb2
  have hop2 := block_on hop1 hb2
  have hbox2 := hbox.on (Nat.le_refl _) hb2
  clear c0 c1 c2 c4 c5 c6 c7 c8 hat2 hop1 hb2 hma hbox
  obtain ⟨c0, c1, c2, c4, c5, c6, c7, c8⟩ := op_cells hop2
  have hcb : w2.cell? ⟨wb, 6, none⟩ = some bsv := hat3.cell6
  have hfb := hat3.row.frozen 6
  have z1 : ¬ (z : Int) < 1 := by omega
  have z2 : ¬ (16 : Int) < (z : Int) := by omega
  have hwl := hat3.lt
  have hopl : w.heap.size < w2.heap.size := (Array.getElem?_eq_some_iff.1 hop2).1
  have hbw : bsv.ownBlock ≠ some wb := fun e => hat3.notw (Or.inl e)
  have hsp : SpecOk K M O S z := ⟨hK, hM, hO, hS, hz⟩
  have hA := hat3.on ((Below.refl _ _).alloc (Nat.le_refl _) (rboxB K M O S z (.slice none 0 0) (.slice none 0 0)))
  have hpair : PairAt (w2.alloc (rboxB K M O S z (.slice none 0 0) (.slice none 0 0))) ⟨p, w2.heap.size, K, M, O, S, z, kn0, [], .slice none 0 0, .slice none 0 0⟩ :=
    ⟨hsp, Rel.new K M O S z, by show 0 + openK kn0 K = K; rw [openK_kn0, Nat.zero_add], hbox2.on (Nat.le_refl _) ((Below.refl _ _).alloc (Nat.le_refl _) _), ⟨heap_alloc_new w2 _, World.ownsRow_nil _ _ _ _, World.ownsRow_nil _ _ _ _⟩, fun _ => ⟨rfl, rfl⟩⟩
  have hfpb : ∀ x, (PB.fp ⟨p, w2.heap.size, K, M, O, S, z, kn0, [], .slice none 0 0, .slice none 0 0⟩ x) → x = p ∨ x = w2.heap.size := fun x hx => by
    rcases hx with hx | hx | hx | hx
    · exact Or.inl hx
    · exact Or.inr hx
    · simp [Value.ownBlock] at hx
    · simp [Value.ownBlock] at hx
  have hfin : ∀ g cap w3, w3.ownsRow 0 72 2 (.slice (some ⟨g, 0, none⟩) (bl.length + 1) cap) (bl.length + 1) (boxK.vals bl ++ [.pointer (some ⟨p, 0, none⟩), .pointer (some ⟨w2.heap.size, 0, none⟩)]) → (w2.alloc (rboxB K M O S z (.slice none 0 0) (.slice none 0 0))).grownBy w3 bsv.ownBlock → (bsv.ownBlock = some g ∨ g = w2.heap.size + 1 + 1) →
      ∃ bsv' bl', BX S0 f w0 (w3.setCell ⟨wb, 6, none⟩ (.slice (some ⟨g, 0, none⟩) (bl.length + 1) cap)) wb bsv' bl' ∧ bl'.length = bl.length + 1 := fun g cap w3 ho hg ha => by
    refine ⟨_, bl ++ [⟨p, w2.heap.size, K, M, O, S, z, kn0, [], .slice none 0 0, .slice none 0 0⟩], hA.snoc hpair (fun x hx2 hx => ?_) (fun x hx => ?_) hg (by rw [Kind.vals_append]; exact ho) rfl ?_, by simp⟩
    · rcases hfpb x hx2 with rfl | rfl
      · exact hpd hx
      · have := hat3.pairs.lt hx
        omega
    · rcases hfpb x hx with rfl | rfl
      · exact hp0
      · exact hat3.chg.size
    · rcases ha with h | h
      · exact Or.inl h
      · right; simp; omega
  have HF := hide hfin
  have hown0 := hat3.own
  clear hfin hfpb hpair hA hpd hbox2 hp0 hsp
  go_wp2_with fail
  go_region_law ((refine step_append_lies _ (by rfl) (.tmp 48) (.tmp 57) 33 (by rfl) 0 72 i0 (.agg #[.pointer none, .pointer none]) 2 16 Tryz.underlying33 hii hz0 hz1 hz2 rfl (by decide) _ _ _ (by rfl) (World.ownsRow.drew (World.ownsRow.alloc (World.ownsRow.alloc hown0 _) _)) ⟨w2.heap.size + 1, 0, none⟩ 1 1 [.pointer (some ⟨p, 0, none⟩), .pointer (some ⟨w2.heap.size, 0, none⟩)] (by rfl) rfl (World.news_of_block (cs := #[_, _]) (heap_alloc2 w2 _ _)) (by intro u hu; simp at hu; rcases hu with rfl | rfl <;> rfl) (by decide) (by unfold maxLen; omega) (by omega) (Nat.zero_le _) (w2.heap.size + 1 + 1) (by simp) ?_; intro g cap w3 hown3 hgr3 hat4 hlt3; have hgr := grownBy_of_alloc (grownBy_of_alloc (grownBy_of_drew hgr3)); have q6 := (hgr.cell_far ⟨wb, 6, none⟩ hwl (fun e => hbw e.symm)).trans hcb; have f6 := (hgr.frozen_far ⟨wb, 6, none⟩ hwl (fun e => hbw e.symm)).trans hfb))
  all_goals
    have hend := HF.out g cap w3 hown3 (grownBy_of_alloc (grownBy_of_drew hgr3)) hat4
    clear HF hown3 hgr3 hgr hat4 q6 f6 hat3 hop2 hown0 c0 c1 c2 c4 c5 c6 c7 c8 hcb hfb
    go_wp2_with fail
    go_ret
    exact ⟨rfl, hend⟩

end Go.Proofs.YtnjaofkieajnlaaGreat

/- 'boxed' and 'step' over boxes, in a world that holds other things too. -/
namespace Go.Proofs.YtnjaofkieajnlaaGreat
open Go.RowKit

set_option maxRecDepth 100000 in
set_option maxHeartbeats 8000000 in
theorem xboxed_any (S0 : Nat → Prop) (f : Nat → Value) (w0 : World) (wb : Nat) (bsv : Value) (bl : List PB) (k a b c K M O S : Int) (s : ByteArray) (lv : Value) (w : World) (hat : BX S0 f w0 w wb bsv bl) (ha1 : -9223372036854775808 ≤ a) (ha2 : a ≤ 9223372036854775807) (hk : k = 2 ∨ k = 3 ∨ k = 4) :
    Calls Tryz.prog 12 #[.pointer (some ⟨wb, 0, none⟩), .agg (opC k a b c K M O S s lv)] w fun e w' => e = .returned (.bool true) ∧ ∃ bl', BX S0 f w0 w' wb bsv bl' ∧ bl'.length = bl.length := by
  have hat1 := hat.on ((Below.refl _ _).alloc (Nat.le_refl _) (.cells (opC k a b c K M O S s lv) 29))
  have hop : (w.alloc (.cells (opC k a b c K M O S s lv) 29)).heap[w.heap.size]? = some (.cells (opC k a b c K M O S s lv) 29 (0, 0)) := heap_alloc_new w _
  have hcb : (w.alloc (.cells (opC k a b c K M O S s lv) 29)).cell? ⟨wb, 6, none⟩ = some bsv := hat1.cell6
  have hcb0 : w.cell? ⟨wb, 6, none⟩ = some bsv := hat.cell6
  have hwl := hat.lt
  by_cases hl0 : bl.length = 0
  · have hbv : ∃ ao cap, bsv = .slice ao 0 cap := by
      rcases hat.own.2 with ⟨h, _⟩ | ⟨g, cap, cur, h, _⟩
      · exact ⟨none, 0, h⟩
      · exact ⟨_, cap, by rw [hl0] at h; exact h⟩
    obtain ⟨ao, cap, rfl⟩ := hbv
    go_enter Tryz.func12, Tryz.ntmps12
    go_wp2_with fail
    go_ret
    exact ⟨rfl, bl, hat1, rfl⟩
  · have hjl := placeOf_lt bl.length a (by omega)
    have hjp := pick_place' a bl.length (by omega)
    generalize placeOf bl.length a = j at *
    obtain ⟨g, cap, rfl, hg, p0, p1⟩ := hat.cells hjl
    have hpk := fun W => lpick_any a (bl.length : Int) W ha1 ha2 (by omega)
    rw [hjp] at hpk
    clear hjp
    have q0 := (((Below.refl w.heap.size w).alloc (Nat.le_refl _) (.cells (opC k a b c K M O S s lv) 29)).cell (p := ⟨g, j * 2, none⟩) hg).trans p0
    have q1 := (((Below.refl w.heap.size w).alloc (Nat.le_refl _) (.cells (opC k a b c K M O S s lv) 29)).cell (p := ⟨g, j * 2 + 1, none⟩) hg).trans p1
    obtain ⟨c0, c1, c2, c4, c5, c6, c7, c8⟩ := op_cells hop
    have i1 : (0 : Int) ≤ (j : Int) := by omega
    have i2 : (j : Int) < (bl.length : Int) := by omega
    have hbn : ((bl.length : Int) == 0) = false := beq_eq_false_iff_ne.2 (by omega)
    generalize hpp : (bl.getD j PB.none).p = p at *
    generalize hrr : (bl.getD j PB.none).r = r at *
    go_enter Tryz.func12, Tryz.ntmps12
    go_upto_region 3 with fail
    generalize hW : w.alloc (.cells (opC k a b c K M O S s lv) 29) = W at *
    have hWs : W.heap.size = w.heap.size + 1 := by rw [← hW]; simp
    go_cut [5] (fun s5 wc => ∃ x, s5 = .pointer (some ⟨x, 0, none⟩) ∧ wc.heap[x]? = some (.cells #[.pointer (some ⟨p, 0, none⟩), .pointer (some ⟨r, 0, none⟩)] 72 (0, 0)) ∧ W.heap.size ≤ x ∧ Below W.heap.size W wc)
    case first =>
      have hbf := ((Below.refl W.heap.size W).alloc (Nat.le_refl _) (.cells #[.pointer (some ⟨p, 0, none⟩), .pointer (some ⟨r, 0, none⟩)] 72)).drew
      have hnw := heap_alloc_new W (.cells #[.pointer (some ⟨p, 0, none⟩), .pointer (some ⟨r, 0, none⟩)] 72)
      have hgW : g < W.heap.size := by omega
      have hwW : wb < W.heap.size := by omega
      have hoW : w.heap.size < W.heap.size := by omega
      clear hat hat1 hop hcb0 p0 p1 c0 c2 c4 c5 c6 c7 c8
      go_region_held3 (fun w' => w'.cell? ⟨wb, 6, none⟩ = some (.slice (some ⟨g, 0, none⟩) bl.length cap) ∧ w'.cell? ⟨w.heap.size, 1, none⟩ = some (.int .i64 a) ∧ w'.cell? ⟨g, j * 2, none⟩ = some (.pointer (some ⟨p, 0, none⟩)) ∧ w'.cell? ⟨g, j * 2 + 1, none⟩ = some (.pointer (some ⟨r, 0, none⟩)))
        (first | (exact ⟨hcb, c1, q0, q1⟩) | go_keep)
        (first
          | (go_at_call 25; refine (hpk _).mono ?_; rintro e w2 ⟨rfl, h2⟩; obtain rfl := h2.symm))
      all_goals
        go_wp2_with fail
        go_meet
        case rel => exact ⟨w.heap.size + 1, rfl, by rw [← hWs]; exact hnw, by omega, hbf⟩
    case rest =>
      obtain ⟨x, rfl, hx, hxl, hbc⟩ := hcut
      have hatc := hat1.on hbc
      have hopc := block_on hop hbc
      have hpr := hatc.each j hjl
      have hold : ∀ w', Below wc.heap.size wc w' → ∃ bl', BX S0 f w0 w' wb (.slice (some ⟨g, 0, none⟩) bl.length cap) bl' ∧ bl'.length = bl.length := fun w' h => ⟨bl, hatc.on h, rfl⟩
      have hupd : ∀ w' B', Chg (bl.getD j PB.none).fp wc w' → PairAt w' B' → B'.p = (bl.getD j PB.none).p → B'.r = (bl.getD j PB.none).r → (∀ k, B'.fp k → (bl.getD j PB.none).fp k ∨ wc.heap.size ≤ k) → ∃ bl', BX S0 f w0 w' wb (.slice (some ⟨g, 0, none⟩) bl.length cap) bl' ∧ bl'.length = bl.length :=
        fun w' B' h1 h2 h3 h4 h5 => ⟨bl.set j B', hatc.update hjl h1 h2 h3 h4 h5, by simp⟩
      subst hpp hrr
      clear hat hat1 hop hcb hcb0 p0 p1 q0 q1 c0 c1 c2 c4 c5 c6 c7 c8 hpk hbc hatc
      generalize bl.getD j PB.none = B at *
      obtain ⟨hx0, hx1⟩ := two_cells hx
      obtain ⟨c0, c1, c2, c4, c5, c6, c7, c8⟩ := op_cells hopc
      have hsp := hpr.spec
      have hK := hsp.hK
      have hM := hsp.hM
      have hO := hsp.hO
      have hS := hsp.hS
      have hz := hsp.hz
      have hpl := hpr.box.lt
      have hHO := hide hold
      have hHU := hide hupd
      clear hold hupd c1 c4 c5 c6 c7 hsp
      rcases hk with rfl | rfl | rfl
      · have hxp : x ≠ B.p := by
          rintro rfl
          obtain ⟨cs, hcs, _⟩ := hpr.box
          rw [hx] at hcs
          simp at hcs
        have hopp : w.heap.size ≠ B.p := by
          intro e
          obtain ⟨cs, hcs, _⟩ := hpr.box
          rw [← e, hopc] at hcs
          simp at hcs
        by_cases hr : b < 0 ∨ (B.K : Int) + (B.M : Int) ≤ b
        · go_wp2_with fail
          refine (put_arg B.p B.K (B.K + B.M) B.z b s (ofs B.K B.M B.O B.S) B.kn _ (by rw [Int.natCast_add]; exact hr) hpr.box).mono ?_
          rintro e w1 ⟨rfl, hw1⟩
          obtain rfl := hw1.symm
          go_wp2_with fail
          refine (rput_arg B.r B.K B.M B.O B.S B.z b s B.av B.pv _ hK.2 hM.2 hr hpr.rbox.box).mono ?_
          rintro e w2 ⟨rfl, hb2⟩
          have hend := hHO.out w2 hb2
          clear hHO hHU hpr hopc hx hx0 hx1 c0 c2 c8 hb2
          go_wp2_with fail
          go_ret
          exact ⟨by first | rfl | simp, hend⟩
        · obtain ⟨i, rfl⟩ := Int.eq_ofNat_of_zero_le (show 0 ≤ b by omega)
          have hi : i < B.K + B.M := by omega
          by_cases ht : s.size = B.z
          · obtain ⟨u1, u2⟩ := hpr.rel.put (by omega) hi ht
            have hput := put_ok B.p B.K (B.K + B.M) B.z i s (ofs B.K B.M B.O B.S) B.kn
            have hpsl : B.ps.length ≤ 900 := by have := hpr.cnt; omega
            have hrt := fun W h1 h2 => rput_told B.r B.K B.M B.O B.S B.z i s B.av B.pv B.ps W hK hM hO hS (by omega) h1 hpsl hpr.rel.inn hi ht h2
            have hrn := fun W h1 h2 => rput_new B.r B.K B.M B.O B.S B.z i s B.av B.pv B.ps W hK hM hO hS (by omega) h1 hpsl hpr.rel.inn hi ht h2
            have hpush := fun h0 => hpr.rel.push hK.2 hi ht h0
            have hopk := fun h0 => openK_put hpr.rel.ok hK.2 ht (ofs_lt B.K B.M B.O B.S i) h0
            have hpk : (left B.kn (ofs B.K B.M B.O B.S i) s).1 = 0 → putK B.kn (ofs B.K B.M B.O B.S i) s = B.kn := fun h0 => by unfold putK; rw [if_pos h0]
            generalize told (boxFacts B.K B.M B.O B.S B.z B.ps) (2 ^ i) B.z = td at *
            generalize left B.kn (ofs B.K B.M B.O B.S i) s = L at *
            generalize putK B.kn (ofs B.K B.M B.O B.S i) s = kn2 at *
            go_wp2_with fail
            refine (hput _ hK.2 hpr.rel.ok (ofs_lt B.K B.M B.O B.S) (by omega) (by omega) hi ht hpr.box).mono ?_
            rintro e w1 ⟨rfl, hbox1, hcg⟩
            have hrb1 := hpr.rbox.chg hcg (fun k hk => hpr.parted hk)
            have hxlt : x < wc.heap.size := (Array.getElem?_eq_some_iff.1 hx).1
            have holt : w.heap.size < wc.heap.size := (Array.getElem?_eq_some_iff.1 hopc).1
            have hx' := (hcg.block x hxlt hxp).trans hx
            have hop' := (hcg.block _ holt hopp).trans hopc
            obtain ⟨y0, y1⟩ := two_cells hx'
            clear hx0 hx1 c0 c2 c8 hput
            obtain ⟨c0, c1, c2, c4, c5, c6, c7, c8⟩ := op_cells hop'
            clear c1 c4 c5 c6 c7
            have hcgf : Chg B.fp wc w1 := hcg.mono (fun k _ hk => Or.inl hk)
            cases htd : td.2
            · have h0 : L.1 ≠ 0 := fun h => by rw [u1.2 h] at htd; cases htd
              have hpe : putE L B.z = 0 := by unfold putE; rw [if_neg (fun h => h0 h.1)]
              rw [hpe]
              have hpsh := hpush h0
              have hok2 := hopk h0
              have HP := hide hpsh
              clear hpush hopk hpk u1 u2 hpe hrt hpsh
              go_wp2_with fail
              refine (hrn _ hrb1 htd).mono ?_
              rintro e w2 ⟨rfl, av', pv', hrb2, hcg2, hfp2⟩
              have hend := hHU.out w2 ⟨B.p, B.r, B.K, B.M, B.O, B.S, B.z, kn2, B.ps ++ [(i, s)], av', pv'⟩ (hcgf.trans hcg2 (fun k _ hk => Or.inr hk))
                ⟨hpr.spec, HP.out, by have := hpr.cnt; show (B.ps ++ [(i, s)]).length + openK kn2 B.K = B.K; rw [List.length_append]; simp; omega, hbox1.block (hcg2.block _ hbox1.lt (fun h => hpr.parted h rfl)), hrb2, fun h => by simp at h⟩ rfl rfl
                (fun k hk => by
                  rcases hk with hk | hk
                  · exact Or.inl (Or.inl hk)
                  · rcases hfp2 k hk with h | h
                    · exact Or.inl (Or.inr h)
                    · right; have := hcg.size; omega)
              clear hHO hHU hpr hopc hx hrn hrb1 hrb2 hop' hx' y0 y1 c0 c2 c8 hcg hcg2 hcgf hbox1 hfp2
              go_wp2_with fail
              go_ret
              exact ⟨by first | rfl | simp, hend⟩
            · have h0 : L.1 = 0 := u1.1 htd
              have hpe : putE L B.z = if td.1 = s then 0 else 4 := by
                unfold putE
                by_cases he : td.1 = s
                · rw [if_pos he, if_neg (fun h => h.2 ((u2 h0).2 he))]
                · rw [if_neg he, if_pos ⟨h0, fun h => he ((u2 h0).1 h)⟩]
              rw [hpe]
              rw [hpk h0] at hbox1
              clear hpush hopk hpk u1 u2 hpe hrn
              generalize (if td.1 = s then (0 : Int) else 4) = ee at *
              go_wp2_with fail
              refine (hrt _ hrb1 htd).mono ?_
              rintro e w2 ⟨rfl, hb2⟩
              have hend := hHU.out w2 B (hcgf.trans (Chg.of_below hb2 (fun _ => False)) (fun k _ hk => hk.elim))
                ⟨hpr.spec, hpr.rel, hpr.cnt, hbox1.on (Nat.le_refl _) hb2, hrb1.on (Nat.le_refl _) hb2, hpr.nil⟩ rfl rfl (fun k hk => Or.inl hk)
              clear hHO hHU hpr hopc hx hrt hrb1 hop' hx' y0 y1 c0 c2 c8 hcg hcgf hbox1 hb2
              go_wp2_with fail
              go_ret
              exact ⟨by first | rfl | simp, hend⟩
          · go_wp2_with fail
            refine (put_shape B.p B.K (B.K + B.M) B.z i s (ofs B.K B.M B.O B.S) B.kn _ hi ht hpr.box).mono ?_
            rintro e w1 ⟨rfl, hw1⟩
            obtain rfl := hw1.symm
            go_wp2_with fail
            refine (rput_shape B.r B.K B.M B.O B.S B.z i s B.av B.pv _ hK.2 hM.2 hi ht hpr.rbox.box).mono ?_
            rintro e w2 ⟨rfl, hb2⟩
            have hend := hHO.out w2 hb2
            clear hHO hHU hpr hopc hx hx0 hx1 c0 c2 c8 hb2
            go_wp2_with fail
            go_ret
            exact ⟨by first | rfl | simp, hend⟩
      · by_cases hr : b < 0 ∨ (B.K : Int) + (B.M : Int) ≤ b
        · go_wp2_with fail
          refine (get_arg B.p B.K (B.K + B.M) B.z b (ofs B.K B.M B.O B.S) B.kn _ (by rw [Int.natCast_add]; exact hr) hpr.box).mono ?_
          rintro e w1 ⟨rfl, hw1⟩
          obtain rfl := hw1.symm
          obtain ⟨r0, r1, r2, r3, r4, r5, r6, hrl⟩ := rbox_cells hpr.rbox.box
          have hbd : ∀ n, Below wc.heap.size wc (wc.drewN n) := fun n => ((Chg.refl (fun _ => False) wc).drewN n).below (fun _ _ x => x)
          clear r2 r3 r4 r5 r6
          by_cases hb0 : b < 0
          · have hd : decide (b < 0) = true := decide_eq_true hb0
            go_wp2_with fail
            go_quiet (fail)
            all_goals
              have hend := hHO.out _ (hbd nq)
              clear hHO hHU hpr hopc hx
              go_wp2_with fail
              go_ret
              exact ⟨by first | rfl | simp, hend⟩
          · have hd : decide (b < 0) = false := decide_eq_false hb0
            have hd2 : (B.K : Int) + (B.M : Int) ≤ b := by omega
            go_wp2_with fail
            go_quiet (fail)
            all_goals
              have hend := hHO.out _ (hbd nq)
              clear hHO hHU hpr hopc hx
              go_wp2_with fail
              go_ret
              exact ⟨by first | rfl | simp, hend⟩
        · obtain ⟨i, rfl⟩ := Int.eq_ofNat_of_zero_le (show 0 ≤ b by omega)
          have hi : i < B.K + B.M := by omega
          obtain ⟨g1, g2⟩ := hpr.rel.get (by omega) hi
          have hget := get_ok B.p B.K (B.K + B.M) B.z i (ofs B.K B.M B.O B.S) B.kn
          have hrg := fun W hb hA hP => rget_any B.r B.K B.M B.O B.S B.z i B.av B.pv B.ps W hK hM hO hS (by omega) hb hA hP (by have := hpr.cnt; omega) hpr.rel.inn (by omega)
          generalize told (boxFacts B.K B.M B.O B.S B.z B.ps) (2 ^ i) B.z = td at *
          generalize left B.kn (ofs B.K B.M B.O B.S i) (zeroB B.z) = L at *
          go_wp2_with fail
          refine (hget _ hK.2 hpr.rel.ok (ofs_lt B.K B.M B.O B.S) (by omega) (by omega) hi hpr.box).mono ?_
          rintro e w1 ⟨rfl, hb1⟩
          have hrb1 := hpr.rbox.on (Nat.le_refl _) hb1
          have hx' := block_on hx hb1
          have hop' := block_on hopc hb1
          obtain ⟨r0, r1, r2, r3, r4, r5, r6, hrl⟩ := rbox_cells hrb1.box
          obtain ⟨y0, y1⟩ := two_cells hx'
          clear hx0 hx1 c0 c2 c8 r2 r3 r4 r5 r6 hget
          obtain ⟨c0, c1, c2, c4, c5, c6, c7, c8⟩ := op_cells hop'
          have hbd : ∀ n, Below w1.heap.size w1 (w1.drewN n) := fun n => ((Chg.refl (fun _ => False) w1).drewN n).below (fun _ _ x => x)
          have hd : decide ((i : Int) < 0) = false := decide_eq_false (by omega)
          have hd2 : ¬ (B.K : Int) + (B.M : Int) ≤ (i : Int) := by omega
          clear c1 c4 c5 c6 c7
          by_cases h0 : L.1 = 0
          · rw [if_pos h0, g2 h0]
            have htd := g1.2 h0
            rw [htd] at hrg
            clear g1 g2 h0 htd
            generalize td.1 = tt at *
            go_wp2_with fail
            go_quiet (fail)
            all_goals
              have hb2 := hbd nq
              have hrb2 := hrb1.on (Nat.le_refl _) hb2
              go_wp2_with fail
              refine (hrg _ hrb2.box hrb2.nums hrb2.texts).mono ?_
              rintro e w3 ⟨rfl, hb3⟩
              have hend := hHO.out w3 (hb1.trans ((hb2.trans (hb3.mono hb2.size)).mono hb1.size))
              clear hHO hHU hpr hopc hx hrg hb1 hb2 hb3 hrb1 hrb2 hop' hx' y0 y1 c0 c2 c8 r0 r1
              go_wp2_with fail
              go_ret
              exact ⟨by first | rfl | simp, hend⟩
          · rw [if_neg h0]
            have htd : td.2 = false := by
              cases h : td.2
              · rfl
              · exact absurd (g1.1 h) h0
            rw [htd] at hrg
            clear g1 g2 h0 htd
            generalize td.1 = tt at *
            go_wp2_with fail
            go_quiet (fail)
            all_goals
              have hb2 := hbd nq
              have hrb2 := hrb1.on (Nat.le_refl _) hb2
              go_wp2_with fail
              refine (hrg _ hrb2.box hrb2.nums hrb2.texts).mono ?_
              rintro e w3 ⟨rfl, hb3⟩
              have hend := hHO.out w3 (hb1.trans ((hb2.trans (hb3.mono hb2.size)).mono hb1.size))
              clear hHO hHU hpr hopc hx hrg hb1 hb2 hb3 hrb1 hrb2 hop' hx' y0 y1 c0 c2 c8 r0 r1
              go_wp2_with fail
              go_ret
              exact ⟨by first | rfl | simp, hend⟩
      · go_wp2_with fail
        refine (need_any B.p B.K (B.K + B.M) B.z (ofs B.K B.M B.O B.S) B.kn _ hK.2 hpr.box).mono ?_
        rintro e w1 ⟨rfl, hw1⟩
        obtain rfl := hw1.symm
        go_wp2_with fail
        refine (rneed_any B.r B.K B.M B.O B.S B.z B.av B.pv B.ps _ hK hM hO hS (by omega) hpr.rbox (by have := hpr.cnt; omega) hpr.rel.inn hpr.nil).mono ?_
        rintro e w2 ⟨rfl, hb2⟩
        rw [hpr.rel.need hK.2 (by omega)]
        have hend := hHO.out w2 hb2
        clear hHO hHU hpr hopc hx hx0 hx1 c0 c2 c8 hb2
        go_wp2_with fail
        go_ret
        exact ⟨by first | rfl | simp, hend⟩

theorem xmade_any (S0 : Nat → Prop) (f : Nat → Value) (w0 : World) (wb : Nat) (bsv : Value) (bl : List PB) (k a b c K M O S : Int) (s : ByteArray) (lv : Value) (w : World) (hat : BX S0 f w0 w wb bsv bl) (hl : bl.length ≤ 4000000000000) :
    Calls Tryz.prog 11 #[.pointer (some ⟨wb, 0, none⟩), .agg (opC k a b c K M O S s lv)] w fun e w' => e = .returned (.bool true) ∧ ∃ bsv' bl', BX S0 f w0 w' wb bsv' bl' ∧ bl'.length ≤ bl.length + 1 ∧ (mayB K M O S = true → 1 ≤ a → a ≤ 16 → k = 1 → bl'.length = bl.length + 1) := by
  cases hm : mayB K M O S
  · exact (xmade_bad S0 f w0 wb bsv bl k a b c K M O S s lv w hat hm).mono fun e w' h => ⟨h.1, bsv, bl, h.2, Nat.le_succ _, fun x => by cases x⟩
  · obtain ⟨h1, h2, h3, h4, h5, h6, h7, h8⟩ := mayB_true hm
    obtain ⟨K, rfl⟩ := Int.eq_ofNat_of_zero_le (show 0 ≤ K by omega)
    obtain ⟨M, rfl⟩ := Int.eq_ofNat_of_zero_le (show 0 ≤ M by omega)
    obtain ⟨O, rfl⟩ := Int.eq_ofNat_of_zero_le (show 0 ≤ O by omega)
    obtain ⟨S, rfl⟩ := Int.eq_ofNat_of_zero_le (show 0 ≤ S by omega)
    by_cases ha : a < 1 ∨ 16 < a
    · exact (xmade_arg S0 f w0 wb bsv bl k a b c K M O S s lv w hat (by omega) (by omega) (by omega) (by omega) ha).mono fun e w' h => ⟨h.1, bsv, bl, h.2, Nat.le_succ _, fun _ _ _ => by omega⟩
    · obtain ⟨z, rfl⟩ := Int.eq_ofNat_of_zero_le (show 0 ≤ a by omega)
      refine (xmade_ok S0 f w0 wb bsv bl k b c K M O S z s lv w hat hl (by omega) (by omega) (by omega) (by omega) (by omega)).mono fun e w' h => ?_
      obtain ⟨he, bsv', bl', h1, h2⟩ := h
      exact ⟨he, bsv', bl', h1, by omega, fun _ _ _ _ => h2⟩

set_option maxRecDepth 100000 in
set_option maxHeartbeats 8000000 in
theorem xstep_any (S0 : Nat → Prop) (f : Nat → Value) (w0 : World) (wb : Nat) (bsv : Value) (bl : List PB) (k a b c K M O S : Int) (s : ByteArray) (lv : Value) (w : World) (hat : BX S0 f w0 w wb bsv bl) (hl : bl.length ≤ 4000000000000) (ha1 : -9223372036854775808 ≤ a) (ha2 : a ≤ 9223372036854775807) (hk : 1 ≤ k ∧ k ≤ 4) :
    Calls Tryz.prog 9 #[.pointer (some ⟨wb, 0, none⟩), .agg (opC k a b c K M O S s lv)] w fun e w' => e = .returned (.bool true) ∧ ∃ bsv' bl', BX S0 f w0 w' wb bsv' bl' ∧ bl'.length ≤ bl.length + 1 ∧ (mayB K M O S = true → 1 ≤ a → a ≤ 16 → k = 1 → bl'.length = bl.length + 1) := by
  have hat1 := hat.on ((Below.refl _ _).alloc (Nat.le_refl _) (.cells (opC k a b c K M O S s lv) 29))
  have hop : (w.alloc (.cells (opC k a b c K M O S s lv) 29)).heap[w.heap.size]? = some (.cells (opC k a b c K M O S s lv) 29 (0, 0)) := heap_alloc_new w _
  go_enter Tryz.func9, Tryz.ntmps9
  by_cases h1 : k = 1
  · subst h1
    go_wp2_with fail
    refine (xmade_any S0 f w0 wb bsv bl 1 a b c K M O S s lv _ hat1 hl).mono ?_
    rintro e w1 ⟨rfl, hend⟩
    have HE := hide hend
    clear hat hat1 hop hend
    go_wp2_with fail
    go_ret
    obtain ⟨bsv', bl', z1, z2, z3⟩ := HE.out
    exact ⟨rfl, bsv', bl', z1, z2, by simpa using z3⟩
  · have hk2 : k = 2 ∨ k = 3 ∨ k = 4 := by omega
    have hbx := xboxed_any S0 f w0 wb bsv bl k a b c K M O S s lv _ hat1 ha1 ha2 hk2
    rcases hk2 with rfl | rfl | rfl
    all_goals
      go_wp2_with fail
      refine hbx.mono ?_
      rintro e w1 ⟨rfl, bl', h2, h3⟩
      clear hat hat1 hop hbx
      go_wp2_with fail
      go_ret
      exact ⟨rfl, bsv, bl', h2, by omega, fun _ _ _ x => by omega⟩

end Go.Proofs.YtnjaofkieajnlaaGreat
