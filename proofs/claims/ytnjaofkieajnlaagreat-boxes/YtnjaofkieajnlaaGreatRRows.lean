/- What the document's own Rows (package refillref) does: the same rows in new memory. -/
import Derived.Test.YtnjaofkieajnlaaGreatHas
namespace Go.Proofs.YtnjaofkieajnlaaGreat
open Go.RowKit

/-- Where refillref.Rows stands: the specification's block h, the rows' block g. -/
structure RAt (w wr : World) (h g base K M O S : Nat) (L : Nat → List Nat) (rv : Nat → Value) : Prop where
  spec : wr.heap[h]? = some (specB K M O S)
  rows : RowsAt wr base g M rv L
  below : Below w.heap.size w wr

theorem RAt.congr {w wr : World} {h g base K M O S : Nat} {L L' : Nat → List Nat} {rv : Nat → Value} (a : RAt w wr h g base K M O S L rv) (hl : ∀ i, i < M → L i = L' i) : RAt w wr h g base K M O S L' rv :=
  ⟨a.spec, a.rows.congr (fun _ _ => rfl) hl, a.below⟩

theorem RAt.on {w wr w1 : World} {h g base K M O S : Nat} {L : Nat → List Nat} {rv : Nat → Value} (a : RAt w wr h g base K M O S L rv) (hb : Below wr.heap.size wr w1) : RAt w w1 h g base K M O S L rv :=
  ⟨by rw [hb.block h (Array.getElem?_eq_some_iff.1 a.spec).1]; exact a.spec, a.rows.below hb, a.below.trans (hb.mono a.below.size)⟩

theorem RAt.push {w wr w1 : World} {h g base K M O S n x gg cap n' : Nat} {L : Nat → List Nat} {rv : Nat → Value} {xs : List Value} (a : RAt w wr h g base K M O S L rv)
    (hnM : n < M) (hg1 : wr.grownBy w1 (rv n).ownBlock) (hh : h < base) (hhg : h ≠ g) (hwg : w.heap.size ≤ g)
    (hown : w1.ownsRow base 3 1 (.slice (some ⟨gg, 0, none⟩) n' cap) n' xs) (hxs : xs = numsV (L n) ++ [.int .i64 (x : Int)]) (hn' : n' = (L n).length + 1) (hat : (rv n).ownBlock = some gg ∨ wr.heap.size ≤ gg) :
    ∃ rv', RAt w (w1.setCell ⟨g, n, none⟩ (.slice (some ⟨gg, 0, none⟩) n' cap)) h g base K M O S (fun k => if k = n then L n ++ [x] else L k) rv' := by
  have hrow := (a.rows.own n hnM).lt
  have hgb := a.rows.gb
  have hhl : h < wr.heap.size := (Array.getElem?_eq_some_iff.1 a.spec).1
  refine ⟨_, ?_, a.rows.push hnM hg1 hown hxs hn' hat, ?_⟩
  · rw [Below.heap_setCell _ _ _ _ (by exact hhg), hg1.block h hhl (fun e => by have := hrow h e.symm; omega)]; exact a.spec
  · exact (((Chg.of_below a.below (fun _ => False)).grown hg1 (fun k e => Or.inl (by have := hrow k e; omega))).setCell (Or.inl hwg) _).below (fun _ _ f => f)

set_option maxRecDepth 100000 in
set_option maxHeartbeats 4000000 in
theorem rrows_ok (K M O S : Nat) (w : World) (hK : 1 ≤ K ∧ K ≤ 20) (hM : 1 ≤ M ∧ M ≤ 20) (hO : 1 ≤ O ∧ O ≤ M) (hS : S ≤ 65535) :
    Calls Tryz.prog 69 #[specV K M O S] w fun e w' => ∃ g rv, e = .returned (.slice (some ⟨g, 0, none⟩) M M) ∧ RowsAt w' (g + 1) g M rv (rowOf K M O S) ∧ w.heap.size ≤ g ∧ Below w.heap.size w w' := by
  have hmk := run_make_row' (P := Tryz.prog) 32 63 (.slice none 0 0) 24 Tryz.underlying32 Tryz.infoInts rfl .i64 .i64 M (by omega) (by omega)
  obtain ⟨i0, hi, hz0, hz1, hz2⟩ := info_parts Tryz.infoInt
  go_enter Tryz.func69, Tryz.ntmps69
  go_wp2_with fail
  go_loopw [4, 5] (fun x i wr => ∃ (j : Nat) (rv : Nat → Value), j ≤ K ∧ i = .int .i64 j ∧ x = .int .i64 ((dealt M O S j).1 : Int) ∧ RAt w wr w.heap.size (w.heap.size + 1) (w.heap.size + 2) K M O S (dealt M O S j).2 rv) (fun _ i _ => K - (intOf i).toNat)
  case atStart =>
    refine ⟨0, fun _ => .slice none 0 0, Nat.zero_le _, rfl, rfl, ?_, ?_, ?_⟩
    · rw [Below.heap_alloc _ _ _ (by simp)]
      exact heap_alloc_new w _
    · have h := RowsAt.made (w.alloc (specB K M O S)) (w.heap.size + 2) M (by simp)
      simp only [World.size_alloc] at h
      exact h
    · exact ((Below.refl _ _).alloc (Nat.le_refl _) _).alloc (by simp) _
  case round =>
    obtain ⟨j, rv, hj, rfl, rfl, hat⟩ := hrel
    obtain ⟨c0, c1, c2, c3⟩ := spec_cells hat.spec
    by_cases hlt : j < K
    · have hat0 : RAt w wr w.heap.size (w.heap.size + 1) (w.heap.size + 2) K M O S (withPiece (drawn M (dealt M O S j).1 0).2 j (dealt M O S j).2) rv := hat.congr (fun i _ => (withPiece_none j _ i).symm)
      clear hat
      go_wp2_with fail
      clear c0 c1 c2 c3
      go_loopw [4, 6] (fun x i wr => ∃ (n : Nat) (rv : Nat → Value), n ≤ O ∧ i = .int .i64 n ∧ x = .int .i64 ((drawn M (dealt M O S j).1 n).1 : Int) ∧ RAt w wr w.heap.size (w.heap.size + 1) (w.heap.size + 2) K M O S (withPiece (drawn M (dealt M O S j).1 n).2 j (dealt M O S j).2) rv) (fun _ i _ => O - (intOf i).toNat)
      case atStart => exact ⟨0, rv, Nat.zero_le _, rfl, rfl, hat0⟩
      case round =>
        clear hat0
        obtain ⟨n, rv1, hn, rfl, rfl, hat⟩ := hrel
        obtain ⟨W2, rfl⟩ : ∃ W, W = wr := ⟨_, rfl⟩
        obtain ⟨c0, c1, c2, c3⟩ := spec_cells hat.spec
        by_cases hnO : n < O
        · have hx := drawn_lt M (dealt M O S j).1 n (dealt_lt M O S j (by omega))
          have hcast : (75 * ((drawn M (dealt M O S j).1 n).1 : Int) + 74) % 65537 = ((nxt (drawn M (dealt M O S j).1 n).1 : Nat) : Int) := by unfold nxt; omega
          have Hc := hide hcast
          clear hcast
          go_wp2_with fail
          rw [Hc.out]
          clear c0 c1 c2 c3
          go_loopw [7, 35] (fun v i wr => ∃ k : Nat, k ≤ M ∧ i = .int .i64 k ∧ wr.ownsRow W2.heap.size 3 1 v (opens (drawn M (dealt M O S j).1 n).2 k).length (numsV (opens (drawn M (dealt M O S j).1 n).2 k)) ∧ Below W2.heap.size W2 wr) (fun _ i _ => M - (intOf i).toNat)
          case atStart => exact ⟨0, Nat.zero_le _, rfl, World.ownsRow_nil _ _ _ _, Below.refl _ _⟩
          case round =>
            obtain ⟨k, hk, rfl, hop, hbel⟩ := hrel
            have hatr := hat.on hbel
            by_cases hkM : k < M
            · have hcell := hatr.rows.cell hkM
              have hown := hatr.rows.own k hkM
              have hl1 := dealt_len M O S j k
              have hl2 := withPiece_len (drawn M (dealt M O S j).1 n).2 j (dealt M O S j).2 k
              have hdec := mem_withPiece (ch := (drawn M (dealt M O S j).1 n).2) (j := j) (L := (dealt M O S j).2) (i := k) (fun q hq => dealt_mem M O S j k q hq)
              have Hd := hide hdec
              clear hdec
              have hos := opens_succ (drawn M (dealt M O S j).1 n).2 k
              have hol := opens_len_le (drawn M (dealt M O S j).1 n).2 k
              have Ho := hide hos
              clear hos
              go_wp2_with fail
              refine (has_any (rv1 k) _ j _ _ (by omega) hown).mono ?_
              rintro e w1 ⟨rfl, rfl⟩
              rw [Hd.out]
              cases hch : (drawn M (dealt M O S j).1 n).2 k
              · rw [hch] at Ho
                have hsz := hbel.size
                clear hown hcell hatr
                go_wp2_with (at_builtin; refine wpList_append_lies _ rfl (.tmp 46) (.tmp 48) 63 rfl W2.heap.size 3 i0 (.int .i64 0) 1 8 Tryz.underlying63 hi hz0 hz1 hz2 rfl (by decide) _ _ _ rfl (hop.alloc _) ⟨w1.heap.size, 0, none⟩ 1 1 [.int .i64 (k : Int)] rfl rfl (one_news _ _ _) (one_oneCell rfl) (by decide) (by unfold maxLen; omega) (by omega) (by simp; omega) (w1.heap.size + 1) (by simp) ?_)
                intro gg cap w2 hown2 hgr hat2 hlt2
                have hb2 : Below W2.heap.size W2 w2 := (hbel.alloc hsz _).grown hgr (by simp; omega) (fun q hq => (hop.lt q hq).1)
                have hown3 : w2.ownsRow W2.heap.size 3 1 (.slice (some ⟨gg, 0, none⟩) ((opens (drawn M (dealt M O S j).1 n).2 k).length + 1) cap) (opens (drawn M (dealt M O S j).1 n).2 (k + 1)).length (numsV (opens (drawn M (dealt M O S j).1 n).2 (k + 1))) := by
                  rw [Ho.out]; simpa [numsV_append, numsV] using hown2
                clear hown2 hgr hat2 hbel hop
                go_wp2
                go_roundw
                case rel => exact ⟨k + 1, by omega, by go_num, hown3, hb2⟩
                case measure => simp [intOf]; omega
              · rw [hch] at Ho
                go_wp2
                go_roundw
                case rel => exact ⟨k + 1, by omega, by go_num, by rw [Ho.out]; simpa using hop, hbel⟩
                case measure => simp [intOf]; omega
            · have hkM2 : k = M := by omega
              subst hkM2
              have hlen := drawn_open k (dealt k O S j).1 n (by omega)
              have hd : nxt (drawn k (dealt k O S j).1 n).1 % (k - n) < (opens (drawn k (dealt k O S j).1 n).2 k).length := by rw [hlen]; exact Nat.mod_lt _ (by omega)
              obtain ⟨hpk, hpf⟩ := pickOpen_spec hd
              rcases owns_cells hop with ⟨_, hnil⟩ | ⟨go, capo, rfl, hcapo, hco⟩
              · rw [hnil] at hd; simp at hd
              · have hdc := hco _ hd
                have hpe : (opens (drawn k (dealt k O S j).1 n).2 k).getD (nxt (drawn k (dealt k O S j).1 n).1 % (k - n)) 0 = pickOpen (drawn k (dealt k O S j).1 n).2 k (nxt (drawn k (dealt k O S j).1 n).1 % (k - n)) := rfl
                rw [hpe] at hdc
                rw [hlen]
                rw [hlen] at hd hcapo
                clear hco hpe hop
                have hds : (drawn k (dealt k O S j).1 (n + 1)).2 = fun i => (drawn k (dealt k O S j).1 n).2 i || i == pickOpen (drawn k (dealt k O S j).1 n).2 k (nxt (drawn k (dealt k O S j).1 n).1 % (k - n)) := rfl
                generalize hr : pickOpen (drawn k (dealt k O S j).1 n).2 k (nxt (drawn k (dealt k O S j).1 n).1 % (k - n)) = r at *
                have Hds := hide hds
                clear hds hr
                have hl1 := dealt_len k O S j r
                have hl2 := withPiece_len (drawn k (dealt k O S j).1 n).2 j (dealt k O S j).2 r
                have hcell := hatr.rows.cell hpk
                have hfrz := hatr.rows.row.frozen r
                have hown := hatr.rows.own r hpk
                have hin0 := hatr.rows.row.lt
                have hsp0 : w.heap.size < wr.heap.size := (Array.getElem?_eq_some_iff.1 hatr.spec).1
                have hm : ((nxt (drawn k (dealt k O S j).1 n).1 : Nat) : Int) % ((k - n : Nat) : Int) = ((nxt (drawn k (dealt k O S j).1 n).1 % (k - n) : Nat) : Int) := by omega
                have hkn : 0 < k - n := by omega
                generalize nxt (drawn k (dealt k O S j).1 n).1 % (k - n) = d at *
                clear hlen
                go_wp2_with (at_builtin; refine wpList_append_lies _ rfl (.tmp 63) (.tmp 65) 63 rfl (w.heap.size + 2) 3 i0 (.int .i64 0) 1 8 Tryz.underlying63 hi hz0 hz1 hz2 rfl (by decide) (rv1 r) _ _ rfl (hown.alloc _) ⟨wr.heap.size, 0, none⟩ 1 1 [.int .i64 (j : Int)] rfl rfl (one_news _ _ _) (one_oneCell rfl) (by decide) (by unfold maxLen; omega) (by omega) (by simp; omega) (wr.heap.size + 1) (by simp) ?_)
                intro gg cap w2 hown2 hgr hat2 hlt2
                have hgr0 := grownBy_of_alloc hgr
                obtain ⟨rv2, hnext⟩ := hatr.push (x := j) hpk hgr0 (by omega) (by omega) (by omega) hown2 rfl rfl (by rcases hat2 with h | h; exact Or.inl h; exact Or.inr (by omega))
                have hnext2 : RAt w _ w.heap.size (w.heap.size + 1) (w.heap.size + 2) K k O S (withPiece (drawn k (dealt k O S j).1 (n + 1)).2 j (dealt k O S j).2) rv2 := hnext.congr (fun i _ => by rw [Hds.out]; exact withPiece_set hpf i)
                have hne : some (w.heap.size + 1) ≠ (rv1 r).ownBlock := fun e => by have := hown.lt _ e.symm; omega
                have hcell2 := (hgr0.cell_far ⟨w.heap.size + 1, r, none⟩ hin0 hne).trans hcell
                have hfrz2 := (hgr0.frozen_far ⟨w.heap.size + 1, r, none⟩ hin0 hne).trans hfrz
                clear hown2 hgr hat2 hgr0 hnext hown hne hat hatr hcell hfrz Hds
                go_wp2
                go_roundw
                case rel => exact ⟨n + 1, rv2, by omega, by go_num, rfl, hnext2⟩
                case measure => simp [intOf]; omega
        · have hnO2 : n = O := by omega
          subst hnO2
          have hnext : RAt w W2 w.heap.size (w.heap.size + 1) (w.heap.size + 2) K M n S (dealt M n S (j + 1)).2 rv1 := by rw [dealt_succ]; exact hat
          clear hat
          go_wp2
          go_roundw
          case rel => exact ⟨j + 1, rv1, by omega, by go_num, rfl, hnext⟩
          case measure => simp [intOf]; omega
    · have hjK : j = K := by omega
      subst hjK
      have hend : RAt w wr w.heap.size (w.heap.size + 1) (w.heap.size + 2) j M O S (closedAt j (dealt M O S j).2 0) rv := hat.congr (fun i _ => by simp [closedAt])
      clear hat
      go_wp2
      go_loopw [70] (fun i wi => ∃ (n : Nat) (rv' : Nat → Value), n ≤ M ∧ i = .int .i64 n ∧ RAt w wi w.heap.size (w.heap.size + 1) (w.heap.size + 2) j M O S (closedAt j (dealt M O S j).2 n) rv') (fun i _ => M - (intOf i).toNat)
      case atStart => exact ⟨0, rv, Nat.zero_le _, rfl, hend⟩
      case round =>
        clear hend
        obtain ⟨n, rv', hn, rfl, hend⟩ := hrel
        by_cases hnM : n < M
        · have hlen : (closedAt j (dealt M O S j).2 n n).length ≤ j := by have := dealt_len M O S j n; rw [closedAt_here]; omega
          have hlen2 : (halfAt j (dealt M O S j).2 n n).length ≤ j + 1 := by have := dealt_len M O S j n; have := halfAt_len j (dealt M O S j).2 n; omega
          have i1 : (0 : Int) ≤ (n : Int) := by omega
          have i2 : (n : Int) < (M : Int) := by omega
          have hw1 : IntKind.i64.wrap ((j : Int) + (n : Int)) = (j : Int) + (n : Int) := IntWalk.i64_in _ (by omega)
          have hw2 : IntKind.i64.wrap ((j : Int) + (n : Int) - 1) = (j : Int) + (n : Int) - 1 := IntWalk.i64_in _ (by omega)
          go_upto_if 74 with fail
          go_cut [11] (fun s9 wc => s9 = .int .i64 n ∧ ∃ rv2, RAt w wc w.heap.size (w.heap.size + 1) (w.heap.size + 2) j M O S (halfAt j (dealt M O S j).2 n) rv2)
          case first =>
            by_cases hn0 : 0 < n
            · have hsp := hend.spec
              obtain ⟨c0, c1, c2, c3⟩ := spec_cells hsp
              clear c1 c2 c3
              have hcell := hend.rows.cell hnM
              have hfrz := hend.rows.row.frozen n
              have hown := hend.rows.own n hnM
              have hin0 := hend.rows.row.lt
              have hhs : w.heap.size < wr.heap.size := (Array.getElem?_eq_some_iff.1 hsp).1
              have hne : some (w.heap.size + 1) ≠ (rv' n).ownBlock := fun e => by have := hown.lt _ e.symm; omega
              have hcast : (j : Int) + (n : Int) - 1 = ((j + n - 1 : Nat) : Int) := by omega
              have Hc := hide hcast
              clear hcast hsp
              go_wp2
              go_region_law ((refine step_append_lies _ (by rfl) (.tmp 80) (.tmp 86) 63 (by rfl) (w.heap.size + 2) 3 i0 (.int .i64 0) 1 8 Tryz.underlying63 hi hz0 hz1 hz2 rfl (by decide) (rv' n) _ _ (by rfl) (World.ownsRow.drew (World.ownsRow.alloc hown _)) ⟨wr.heap.size, 0, none⟩ 1 1 [.int .i64 ((j : Int) + (n : Int) - 1)] (by rfl) rfl (World.news_of_block (cs := #[_]) (heap_alloc_new wr _)) (one_oneCell rfl) (by decide) (by unfold maxLen; omega) (by omega) (by simp; omega) (wr.heap.size + 1) (by simp) ?_; intro gg cap w2 hown2 hgr hat2 hlt2; have k2 := hgr.cell_far ⟨w.heap.size + 1, n, none⟩ (by simp; omega) hne; have k3 := hgr.frozen_far ⟨w.heap.size + 1, n, none⟩ (by simp; omega) hne))
              all_goals
                obtain ⟨rv2, hnext⟩ := hend.push (x := j + n - 1) hnM (grownBy_of_alloc (grownBy_of_drew hgr)) (by omega) (by omega) (by omega) hown2 (by rw [Hc.out]) rfl (by rcases hat2 with h | h; exact Or.inl h; exact Or.inr (by omega))
                have hnext2 := hnext.congr (fun i _ => halfAt_some j (dealt M O S j).2 n hn0 i)
                clear hnext hown2 hgr hat2 hend k2 k3 hown hcell hfrz
                go_wp2
                go_meet
                case rel => exact ⟨rfl, rv2, hnext2⟩
            · have hn0' : n = 0 := by omega
              subst hn0'
              have hnext2 := hend.congr (fun i _ => (halfAt_none j (dealt M O S j).2 i).symm)
              clear hend
              go_wp2
              go_meet
              case rel => exact ⟨rfl, rv', hnext2⟩
          case rest =>
            clear hend
            obtain ⟨rfl, rv2, hend⟩ := hcut
            have hsp := hend.spec
            obtain ⟨c0, c1, c2, c3⟩ := spec_cells hsp
            clear c1 c2 c3
            have hcell := hend.rows.cell hnM
            have hfrz := hend.rows.row.frozen n
            have hown := hend.rows.own n hnM
            have hin0 := hend.rows.row.lt
            have hhs : w.heap.size < wc.heap.size := (Array.getElem?_eq_some_iff.1 hsp).1
            have hne : some (w.heap.size + 1) ≠ (rv2 n).ownBlock := fun e => by have := hown.lt _ e.symm; omega
            have hcast : (j : Int) + (n : Int) = ((j + n : Nat) : Int) := by omega
            have Hc := hide hcast
            clear hcast hsp
            go_wp2
            go_region_law ((refine step_append_lies _ (by rfl) (.tmp 94) (.tmp 99) 63 (by rfl) (w.heap.size + 2) 3 i0 (.int .i64 0) 1 8 Tryz.underlying63 hi hz0 hz1 hz2 rfl (by decide) (rv2 n) _ _ (by rfl) (World.ownsRow.drew (World.ownsRow.alloc hown _)) ⟨wc.heap.size, 0, none⟩ 1 1 [.int .i64 ((j : Int) + (n : Int))] (by rfl) rfl (World.news_of_block (cs := #[_]) (heap_alloc_new wc _)) (one_oneCell rfl) (by decide) (by unfold maxLen; omega) (by omega) (by simp; omega) (wc.heap.size + 1) (by simp) ?_; intro gg cap w2 hown2 hgr hat2 hlt2; have k2 := hgr.cell_far ⟨w.heap.size + 1, n, none⟩ (by simp; omega) hne; have k3 := hgr.frozen_far ⟨w.heap.size + 1, n, none⟩ (by simp; omega) hne))
            all_goals
              obtain ⟨rv3, hnext⟩ := hend.push (x := j + n) hnM (grownBy_of_alloc (grownBy_of_drew hgr)) (by omega) (by omega) (by omega) hown2 (by rw [Hc.out]) rfl (by rcases hat2 with h | h; exact Or.inl h; exact Or.inr (by omega))
              have hnext2 := hnext.congr (fun i _ => halfAt_close j (dealt M O S j).2 n i)
              clear hnext hown2 hgr hat2 hend k2 k3 hown hcell hfrz
              go_wp2
              go_roundw
              case rel => exact ⟨n + 1, rv3, by omega, by go_num, hnext2⟩
              case measure => simp [intOf]; omega
        · have hnM2 : n = M := by omega
          subst hnM2
          have hrows : RowsAt wr (w.heap.size + 1 + 1) (w.heap.size + 1) n rv' (rowOf j n O S) := (hend.rows.congr (fun _ _ => rfl) (fun i hi => closedAt_all j n O S i hi)).rebase (by omega) (by omega)
          have hbel := hend.below
          clear hend
          go_wp2
          go_ret
          exact ⟨_, rv', rfl, hrows, by omega, hbel⟩

end Go.Proofs.YtnjaofkieajnlaaGreat
