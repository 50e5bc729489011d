/- Texts of the proof, part 6. -/
import Derived.BigQuiet
import Derived.Deep.DeepCutAuto
import Derived.Deep.DrawnRows
import Derived.Deep.QuietTactic
import Derived.Deep.RegionHeld3
import Derived.Deep.RegionLaw
import Derived.Laws.Bits64b
import Derived.Laws.BytesArg
import Derived.Test.YtnjaofkieajnlabPostedG0
import Derived.Test.YtnjaofkieajnlabPostedG2
import Derived.Test.YtnjaofkieajnlabPostedG4
import Derived.WalkKit

/- What the program's Rows (package word) does: the rows of the specification in new memory, or an error. -/
namespace Go.Proofs.Ytnjaofkieajnlab
open Go.RowKit

theorem Try.infoInt : (Try.prog.info? 3).map (fun i => (i.zero, i.size, i.bytes)) = some (some (.int .i64 0), 1, 8) := by kernel_rfl
theorem Try.infoInts : (Try.prog.info? 22).map (fun i => (i.zero, i.size, i.bytes)) = some (some (.slice none 0 0), 1, 24) := by kernel_rfl

/-- A specification's cells. -/
abbrev specB (K M O S : Nat) : Obj := .cells #[.int .i64 (K : Int), .int .i64 (M : Int), .int .i64 (O : Int), .int .i64 (S : Int)] 24 (0, 0)

/-- Where word.Rows stands behind j pieces: the specification's block h, the rows' block g, the drawer's block b. -/
structure WAt (w wr : World) (h g b base K M O S j : Nat) (rv : Nat → Value) : Prop where
  spec : wr.heap[h]? = some (specB K M O S)
  drawer : wr.heap[b]? = some (.cells #[.int .i64 ((dealt M O S j).1 : Int)] 115 (0, 0))
  rows : RowsAt wr base g M rv (dealt M O S j).2
  below : Below w.heap.size w wr

theorem spec_cells {w : World} {h K M O S : Nat} (hs : w.heap[h]? = some (specB K M O S)) :
    w.cell? ⟨h, 0, none⟩ = some (.int .i64 (K : Int)) ∧ w.cell? ⟨h, 1, none⟩ = some (.int .i64 (M : Int)) ∧ w.cell? ⟨h, 2, none⟩ = some (.int .i64 (O : Int)) ∧ w.cell? ⟨h, 3, none⟩ = some (.int .i64 (S : Int)) := by
  refine ⟨?_, ?_, ?_, ?_⟩ <;> (rw [cell_of_row _ _ _ _ _ _ hs]; rfl)

/-- .. and behind n rows of piece j, the chosen rows in block c. -/
structure WIn (w wr : World) (h g b base c K M O S j n : Nat) (rv : Nat → Value) : Prop where
  spec : wr.heap[h]? = some (specB K M O S)
  drawer : wr.heap[b]? = some (.cells #[.int .i64 ((dealt M O S (j + 1)).1 : Int)] 115 (0, 0))
  marks : wr.rowIs c 112 20 (fun i => .bool ((drawn M (dealt M O S j).1 O).2 i))
  rows : RowsAt wr base g M rv (withPiece (upTo (drawn M (dealt M O S j).1 O).2 n) j (dealt M O S j).2)
  below : Below w.heap.size w wr

theorem WAt.enter {w wr w1 : World} {h g b base K M O S j : Nat} {rv : Nat → Value} {cs old : Array Value} (a : WAt w wr h g b base K M O S j rv) (hh : h ≠ b) (hg : g ≠ b) (hb : b < base) (hwb : w.heap.size ≤ b)
    (c : Chg (fun k => k = b) wr w1) (hd : w1.heap[b]? = some (.cells #[.int .i64 ((drawn M (dealt M O S j).1 O).1 : Int)] 115 (0, 0))) (hm : MarksAt cs (drawn M (dealt M O S j).1 O).2) :
    WIn w ((w1.alloc (.cells old 112)).setRow w1.heap.size cs) h g b base w1.heap.size K M O S j 0 rv := by
  have hold : ∀ k, k < w1.heap.size → ((w1.alloc (.cells old 112)).setRow w1.heap.size cs).heap[k]? = w1.heap[k]? := fun k hk => by
    rw [setRow_other _ _ _ _ (by omega), Below.heap_alloc _ _ _ hk]
  have hhl : h < wr.heap.size := (Array.getElem?_eq_some_iff.1 a.spec).1
  have hbl : b < w1.heap.size := (Array.getElem?_eq_some_iff.1 hd).1
  have hs := c.size
  have hbw := a.below.size
  refine ⟨?_, ?_, ?_, ?_, ?_⟩
  · rw [hold h (by omega), c.block h hhl hh]; exact a.spec
  · rw [hold b hbl]; exact hd
  · exact ⟨cs, setRow_heap _ _ _ _ _ _ (heap_alloc_new w1 _), hm.size, hm.at_⟩
  · have h1 := a.rows.chg c hg (fun k hk _ e => by omega)
    have h2 := h1.kept (w' := (w1.alloc (.cells old 112)).setRow w1.heap.size cs) (hold g h1.row.lt) (fun k _ hk => hold k hk)
    refine h2.congr (fun _ _ => rfl) (fun i _ => ?_)
    rw [upTo_zero, withPiece_none]
  · exact ((((Chg.of_below a.below (fun _ => False)).trans c (fun k hk e => by omega)).alloc _).setRow (Or.inl (by omega)) _).below (fun _ _ f => f)

theorem WIn.skip {w wr : World} {h g b base c K M O S j n : Nat} {rv : Nat → Value} (a : WIn w wr h g b base c K M O S j n rv) (hn : (drawn M (dealt M O S j).1 O).2 n = false) :
    WIn w wr h g b base c K M O S j (n + 1) rv :=
  ⟨a.spec, a.drawer, a.marks, a.rows.congr (fun _ _ => rfl) (fun i _ => by unfold withPiece; rw [upTo_skip _ _ _ hn]), a.below⟩

/-- The rows as far as they are closed. -/
structure WEnd (w wr : World) (h g base K M : Nat) (L : Nat → List Nat) (rv : Nat → Value) : Prop where
  spec : ∃ m o s : Nat, wr.heap[h]? = some (specB K m o s)
  rows : RowsAt wr base g M rv L
  below : Below w.heap.size w wr

theorem WEnd.push {w wr w1 : World} {h g base K M n x gg cap n' : Nat} {L : Nat → List Nat} {rv : Nat → Value} {xs : List Value} (a : WEnd w wr h g base K M L rv)
    (hnM : n < M) (hg1 : wr.grownBy w1 (rv n).ownBlock) (hh : h < base) (hhg : h ≠ g) (hwg : w.heap.size ≤ g)
    (hown : w1.ownsRow base 3 1 (.slice (some ⟨gg, 0, none⟩) n' cap) n' xs) (hxs : xs = numsV (L n) ++ [.int .i64 (x : Int)]) (hn' : n' = (L n).length + 1) (hat : (rv n).ownBlock = some gg ∨ wr.heap.size ≤ gg) :
    ∃ rv', WEnd w (w1.setCell ⟨g, n, none⟩ (.slice (some ⟨gg, 0, none⟩) n' cap)) h g base K M (fun k => if k = n then L n ++ [x] else L k) rv' := by
  have hrow := (a.rows.own n hnM).lt
  have hgb := a.rows.gb
  obtain ⟨m, o, s, hs⟩ := a.spec
  have hhl : h < wr.heap.size := (Array.getElem?_eq_some_iff.1 hs).1
  refine ⟨_, ⟨m, o, s, ?_⟩, a.rows.push hnM hg1 hown hxs hn' hat, ?_⟩
  · rw [Below.heap_setCell _ _ _ _ (by exact hhg), hg1.block h hhl (fun e => by have := hrow h e.symm; omega)]; exact hs
  · exact (((Chg.of_below a.below (fun _ => False)).grown hg1 (fun k e => Or.inl (by have := hrow k e; omega))).setCell (Or.inl hwg) _).below (fun _ _ f => f)

theorem WEnd.congr {w wr : World} {h g base K M : Nat} {L L' : Nat → List Nat} {rv : Nat → Value} (a : WEnd w wr h g base K M L rv) (hl : ∀ i, i < M → L i = L' i) : WEnd w wr h g base K M L' rv :=
  ⟨a.spec, a.rows.congr (fun _ _ => rfl) hl, a.below⟩

theorem WEnd.drew {w wr : World} {h g base K M : Nat} {L : Nat → List Nat} {rv : Nat → Value} (a : WEnd w wr h g base K M L rv) : WEnd w wr.drew h g base K M L rv :=
  ⟨a.spec, a.rows.drew, a.below.drew⟩

/-- A row has been appended to and stored back. -/
theorem WIn.take {w wr w1 : World} {h g b base c K M O S j n gg cap n' : Nat} {rv : Nat → Value} {xs : List Value} (a : WIn w wr h g b base c K M O S j n rv)
    (hn : (drawn M (dealt M O S j).1 O).2 n = true) (hnM : n < M) (hg1 : wr.grownBy w1 (rv n).ownBlock) (hh : h < base) (hb : b < base) (hhg : h ≠ g) (hbg : b ≠ g) (hcg : c ≠ g) (hwg : w.heap.size ≤ g)
    (hown : w1.ownsRow base 3 1 (.slice (some ⟨gg, 0, none⟩) n' cap) n' xs) (hxs : xs = numsV (withPiece (upTo (drawn M (dealt M O S j).1 O).2 n) j (dealt M O S j).2 n) ++ [.int .i64 (j : Int)])
    (hn' : n' = (withPiece (upTo (drawn M (dealt M O S j).1 O).2 n) j (dealt M O S j).2 n).length + 1) (hat : (rv n).ownBlock = some gg ∨ wr.heap.size ≤ gg) :
    ∃ rv', WIn w (w1.setCell ⟨g, n, none⟩ (.slice (some ⟨gg, 0, none⟩) n' cap)) h g b base c K M O S j (n + 1) rv' := by
  have hrow := (a.rows.own n hnM).lt
  have hc := owns_ne (a.rows.own n hnM) a.marks (by decide)
  have hgb := a.rows.gb
  have hkeep : ∀ k, k < wr.heap.size → k ≠ g → (∀ q, (rv n).ownBlock = some q → q ≠ k) → (w1.setCell ⟨g, n, none⟩ (.slice (some ⟨gg, 0, none⟩) n' cap)).heap[k]? = wr.heap[k]? := fun k hk hkg hq => by
    rw [Below.heap_setCell _ _ _ _ (by exact hkg)]
    exact hg1.block k hk (fun e => hq k e.symm rfl)
  have hlow : ∀ k, k < base → ∀ q, (rv n).ownBlock = some q → q ≠ k := fun k hk q hq => by have := hrow q hq; omega
  have hhl : h < wr.heap.size := (Array.getElem?_eq_some_iff.1 a.spec).1
  have hbl : b < wr.heap.size := (Array.getElem?_eq_some_iff.1 a.drawer).1
  refine ⟨_, ?_, ?_, ?_, (a.rows.push hnM hg1 hown hxs hn' hat).congr (fun _ _ => rfl) (fun i _ => upTo_take _ j n _ hn i), ?_⟩
  · rw [hkeep h hhl hhg (hlow h hh)]; exact a.spec
  · rw [hkeep b hbl hbg (hlow b hb)]; exact a.drawer
  · exact a.marks.of_block (hkeep c a.marks.lt hcg hc)
  · have hws := a.below.size
    exact (((Chg.of_below a.below (fun _ => False)).grown hg1 (fun k e => Or.inl (by have := hrow k e; omega))).setCell (Or.inl hwg) _).below (fun _ _ f => f)

theorem WIn.leave {w wr : World} {h g b base c K M O S j : Nat} {rv : Nat → Value} (a : WIn w wr h g b base c K M O S j M rv) : WAt w wr h g b base K M O S (j + 1) rv :=
  ⟨a.spec, a.drawer, a.rows.congr (fun _ _ => rfl) (fun i hi => by rw [dealt_succ]; unfold withPiece; rw [upTo_same _ _ _ hi]), a.below⟩

set_option maxRecDepth 100000 in
set_option maxHeartbeats 2000000 in
theorem wrows_ok (K M O S : Nat) (w : World) (hK : 1 ≤ K ∧ K ≤ 20) (hM : 1 ≤ M ∧ M ≤ 20) (hO : 1 ≤ O ∧ O ≤ M) (hS : S ≤ 65535) :
    Calls Try.prog 63 #[specV K M O S] w fun e w' => ∃ g rv, e = .returned (.tuple #[.slice (some ⟨g, 0, none⟩) M M, .int .i64 0]) ∧ RowsAt w' (g + 1) g M rv (rowOf K M O S) ∧ w.heap.size ≤ g ∧ Below w.heap.size w w' := by
  have hmay : mayB K M O S = true := by simp [mayB]; omega
  have hmk := run_make_row' (P := Try.prog) 101 22 (.slice none 0 0) 24 Try.underlying101 Try.infoInts rfl .i64 .i64 M (by omega) (by omega)
  obtain ⟨i0, hi, hz0, hz1, hz2⟩ := info_parts Try.infoInt
  go_enter Try.func63, Try.ntmps63
  go_wp2_with fail
  refine (maybe_any _ _ _ _ _).mono ?_
  rintro e w' ⟨rfl, rfl⟩
  rw [hmay]
  go_wp2_with fail
  refine (from_any _ _).mono ?_
  rintro e w' ⟨rfl, rfl⟩
  go_wp2_with fail
  go_loopw [6] (fun i wr => ∃ (j : Nat) (rv : Nat → Value), j ≤ K ∧ i = .int .i64 j ∧ WAt w wr w.heap.size (w.heap.size + 1 + 1) (w.heap.size + 1 + 1 + 1) (w.heap.size + 4) K M O S j rv) (fun i _ => K - (intOf i).toNat)
  case atStart =>
    refine ⟨0, fun _ => .slice none 0 0, Nat.zero_le _, rfl, ?_, ?_, ?_, ?_⟩
    · rw [Below.heap_alloc _ _ _ (by simp; omega), Below.heap_alloc _ _ _ (by simp; omega), Below.heap_alloc _ _ _ (by simp)]
      exact heap_alloc_new w _
    · have h := heap_alloc_new (((w.alloc (specB K M O S)).alloc (specB K M O S)).alloc (.cells (madeCells #[.slice none 0 0] M) 22)) (.cells #[.int .i64 (S : Int)] 115 (0, 0))
      simp only [World.size_alloc] at h
      exact h
    · have h := ((RowsAt.made ((w.alloc (specB K M O S)).alloc (specB K M O S)) (w.heap.size + 4) M (by simp)).alloc (.cells #[.int .i64 (S : Int)] 115 (0, 0)))
      simp only [World.size_alloc] at h
      exact h
    · exact ((((Below.refl _ _).alloc (Nat.le_refl _) _).alloc (by simp) _).alloc (by simp; omega) _).alloc (by simp; omega) _
  case round =>
    obtain ⟨j, rv, hj, rfl, hat⟩ := hrel
    obtain ⟨c0, c1, c2, c3⟩ := spec_cells hat.spec
    have hsz := hat.rows.row.lt
    have hbz : w.heap.size + 1 + 1 + 1 < wr.heap.size := (Array.getElem?_eq_some_iff.1 hat.drawer).1
    by_cases hlt : j < K
    · go_wp2_with fail
      refine (choose_any _ _ _ _ _ (dealt_lt M O S j (by omega)) (by omega) (by omega) hat.drawer).mono ?_
      rintro e w1 ⟨cs, rfl, hmks, hdr1, hcg1⟩
      have hmsz := hmks.size
      have hmon := hmks.one
      have Hmks := hide hmks
      clear hmks
      go_wp2_with (refine wpList_store_row rfl 112 (.tmp 7) (.tmp 30) rfl w1.heap.size cs rfl rfl 112 (Array.replicate 20 (.bool false)) (heap_alloc_new w1 _) (by rw [hmsz]; exact Try.sizeMarks) (by rw [hmsz]; rfl) hmon ?_)
      have hin := hat.enter (old := Array.replicate 20 (.bool false)) (by omega) (by omega) (by omega) (by omega) hcg1 hdr1 Hmks.out
      have hw1 := hcg1.size
      clear hat hcg1 hdr1 c0 c1 c2 c3
      have hcc : w.heap.size + 4 ≤ w1.heap.size := by omega
      go_loopw [33] (fun i wi => ∃ (n : Nat) (rv' : Nat → Value), n ≤ M ∧ i = .int .i64 n ∧ WIn w wi w.heap.size (w.heap.size + 1 + 1) (w.heap.size + 1 + 1 + 1) (w.heap.size + 4) w1.heap.size K M O S j n rv') (fun i _ => M - (intOf i).toNat)
      case atStart => exact ⟨0, rv, Nat.zero_le _, rfl, hin⟩
      case round =>
        clear hin
        obtain ⟨n, rv', hn, rfl, hin⟩ := hrel
        by_cases hnM : n < M
        · have hmark := hin.marks.cell (show n < 20 from by omega)
          have hcell := hin.rows.cell hnM
          have hfrz := hin.rows.row.frozen n
          have hl1 := dealt_len M O S j n
          have hl2 := withPiece_len (upTo (drawn M (dealt M O S j).1 O).2 n) j (dealt M O S j).2 n
          cases hch : (drawn M (dealt M O S j).1 O).2 n
          · have hnext := hin.skip hch
            rw [hch] at hmark
            clear hin hcell hfrz
            go_wp2
            go_roundw
            case rel => exact ⟨n + 1, rv', by omega, by go_num, hnext⟩
            case measure => simp [intOf]; omega
          · rw [hch] at hmark
            have hown := hin.rows.own n hnM
            have hin0 := hin.rows.row.lt
            have hin1 : w1.heap.size < wr.heap.size := hin.marks.lt
            go_wp2_with (at_builtin; refine wpList_append_lies _ rfl (.tmp 44) (.tmp 46) 22 rfl (w.heap.size + 4) 3 i0 (.int .i64 0) 1 8 Try.underlying22 hi hz0 hz1 hz2 rfl (by decide) (rv' n) _ _ rfl (hown.alloc _) ⟨wr.heap.size, 0, none⟩ 1 1 [.int .i64 (j : Int)] rfl rfl (one_news _ _ _) (one_oneCell rfl) (by decide) (by unfold maxLen; omega) (by omega) (by simp; omega) (wr.heap.size + 1) (by simp) ?_)
            intro gg cap w2 hown2 hgr hat2 hlt2
            have hgr0 := grownBy_of_alloc hgr
            have hat0 : (rv' n).ownBlock = some gg ∨ wr.heap.size ≤ gg := by rcases hat2 with h | h; exact Or.inl h; exact Or.inr (by omega)
            obtain ⟨rv2, hnext⟩ := hin.take hch hnM hgr0 (by omega) (by omega) (by omega) (by omega) (by omega) (by omega) hown2 rfl rfl hat0
            have hne : some (w.heap.size + 1 + 1) ≠ (rv' n).ownBlock := fun e => by have := hown.lt _ e.symm; omega
            have hcell2 := (hgr0.cell_far ⟨w.heap.size + 1 + 1, n, none⟩ hin0 hne).trans hcell
            have hfrz2 := (hgr0.frozen_far ⟨w.heap.size + 1 + 1, n, none⟩ hin0 hne).trans hfrz
            clear hown2 hgr hat2 hgr0 hat0 hin hown hmark hne
            go_wp2
            go_roundw
            case rel => exact ⟨n + 1, rv2, by omega, by go_num, hnext⟩
            case measure => simp [intOf]; omega
        · have hnM2 : n = M := by omega
          subst hnM2
          have hnext := hin.leave
          clear hin
          go_wp2
          go_roundw
          case rel => exact ⟨j + 1, rv', by omega, by go_num, hnext⟩
          case measure => simp [intOf]; omega
    · have hjK : j = K := by omega
      subst hjK
      have hend : WEnd w wr w.heap.size (w.heap.size + 1 + 1) (w.heap.size + 4) j M (closedAt j (dealt M O S j).2 0) rv := ⟨⟨M, O, S, hat.spec⟩, hat.rows.congr (fun _ _ => rfl) (fun i _ => by simp [closedAt]), hat.below⟩
      clear hat hbz hsz
      go_wp2
      go_loopw [52] (fun i wi => ∃ (n : Nat) (rv' : Nat → Value), n ≤ M ∧ i = .int .i64 n ∧ WEnd w wi w.heap.size (w.heap.size + 1 + 1) (w.heap.size + 4) j M (closedAt j (dealt M O S j).2 n) rv') (fun i _ => M - (intOf i).toNat)
      case atStart => exact ⟨0, rv, Nat.zero_le _, rfl, hend⟩
      case round =>
        clear hend
        obtain ⟨n, rv', hn, rfl, hend⟩ := hrel
        by_cases hnM : n < M
        · have hlen : (closedAt j (dealt M O S j).2 n n).length ≤ j := by have := dealt_len M O S j n; rw [closedAt_here]; omega
          have hlen2 : (halfAt j (dealt M O S j).2 n n).length ≤ j + 1 := by have := dealt_len M O S j n; have := halfAt_len j (dealt M O S j).2 n; omega
          have i1 : (0 : Int) ≤ (n : Int) := by omega
          have i2 : (n : Int) < (M : Int) := by omega
          have hw1 : IntKind.i64.wrap ((j : Int) + (n : Int)) = (j : Int) + (n : Int) := IntWalk.i64_in _ (by omega)
          have hw2 : IntKind.i64.wrap ((j : Int) + (n : Int) - 1) = (j : Int) + (n : Int) - 1 := IntWalk.i64_in _ (by omega)
          go_upto_if 56 with fail
          go_cut [9] (fun s9 wc => s9 = .int .i64 n ∧ ∃ rv2, WEnd w wc w.heap.size (w.heap.size + 1 + 1) (w.heap.size + 4) j M (halfAt j (dealt M O S j).2 n) rv2)
          case first =>
            by_cases hn0 : 0 < n
            · obtain ⟨m, o, s, hsp⟩ := hend.spec
              obtain ⟨c0, c1, c2, c3⟩ := spec_cells hsp
              clear c1 c2 c3
              have hcell := hend.rows.cell hnM
              have hfrz := hend.rows.row.frozen n
              have hown := hend.rows.own n hnM
              have hin0 := hend.rows.row.lt
              have hhs : w.heap.size < wr.heap.size := (Array.getElem?_eq_some_iff.1 hsp).1
              have hne : some (w.heap.size + 1 + 1) ≠ (rv' n).ownBlock := fun e => by have := hown.lt _ e.symm; omega
              have hcast : (j : Int) + (n : Int) - 1 = ((j + n - 1 : Nat) : Int) := by omega
              have Hc := hide hcast
              clear hcast
              go_wp2
              go_region_law ((refine step_append_lies _ (by rfl) (.tmp 62) (.tmp 68) 22 (by rfl) (w.heap.size + 4) 3 i0 (.int .i64 0) 1 8 Try.underlying22 hi hz0 hz1 hz2 rfl (by decide) (rv' n) _ _ (by rfl) (World.ownsRow.drew (World.ownsRow.alloc hown _)) ⟨wr.heap.size, 0, none⟩ 1 1 [.int .i64 ((j : Int) + (n : Int) - 1)] (by rfl) rfl (World.news_of_block (cs := #[_]) (heap_alloc_new wr _)) (one_oneCell rfl) (by decide) (by unfold maxLen; omega) (by omega) (by simp; omega) (wr.heap.size + 1) (by simp) ?_; intro gg cap w2 hown2 hgr hat2 hlt2; have k2 := hgr.cell_far ⟨w.heap.size + 1 + 1, n, none⟩ (by simp; omega) hne; have k3 := hgr.frozen_far ⟨w.heap.size + 1 + 1, n, none⟩ (by simp; omega) hne))
              all_goals
                obtain ⟨rv2, hnext⟩ := hend.push (x := j + n - 1) hnM (grownBy_of_alloc (grownBy_of_drew hgr)) (by omega) (by omega) (by omega) hown2 (by rw [Hc.out]) rfl (by rcases hat2 with h | h; exact Or.inl h; exact Or.inr (by omega))
                have hnext2 := hnext.congr (fun i _ => halfAt_some j (dealt M O S j).2 n hn0 i)
                clear hnext hown2 hgr hat2 hend k2 k3 hown hcell hfrz
                go_wp2
                go_meet
                case rel => exact ⟨rfl, rv2, hnext2⟩
            · have hn0' : n = 0 := by omega
              subst hn0'
              have hnext2 := hend.congr (fun i _ => (halfAt_none j (dealt M O S j).2 i).symm)
              clear hend
              go_wp2
              go_meet
              case rel => exact ⟨rfl, rv', hnext2⟩
          case rest =>
            clear hend
            obtain ⟨rfl, rv2, hend⟩ := hcut
            obtain ⟨m, o, s, hsp⟩ := hend.spec
            obtain ⟨c0, c1, c2, c3⟩ := spec_cells hsp
            clear c1 c2 c3
            have hcell := hend.rows.cell hnM
            have hfrz := hend.rows.row.frozen n
            have hown := hend.rows.own n hnM
            have hin0 := hend.rows.row.lt
            have hhs : w.heap.size < wc.heap.size := (Array.getElem?_eq_some_iff.1 hsp).1
            have hne : some (w.heap.size + 1 + 1) ≠ (rv2 n).ownBlock := fun e => by have := hown.lt _ e.symm; omega
            have hcast : (j : Int) + (n : Int) = ((j + n : Nat) : Int) := by omega
            have Hc := hide hcast
            clear hcast
            go_wp2
            go_region_law ((refine step_append_lies _ (by rfl) (.tmp 76) (.tmp 81) 22 (by rfl) (w.heap.size + 4) 3 i0 (.int .i64 0) 1 8 Try.underlying22 hi hz0 hz1 hz2 rfl (by decide) (rv2 n) _ _ (by rfl) (World.ownsRow.drew (World.ownsRow.alloc hown _)) ⟨wc.heap.size, 0, none⟩ 1 1 [.int .i64 ((j : Int) + (n : Int))] (by rfl) rfl (World.news_of_block (cs := #[_]) (heap_alloc_new wc _)) (one_oneCell rfl) (by decide) (by unfold maxLen; omega) (by omega) (by simp; omega) (wc.heap.size + 1) (by simp) ?_; intro gg cap w2 hown2 hgr hat2 hlt2; have k2 := hgr.cell_far ⟨w.heap.size + 1 + 1, n, none⟩ (by simp; omega) hne; have k3 := hgr.frozen_far ⟨w.heap.size + 1 + 1, n, none⟩ (by simp; omega) hne))
            all_goals
              obtain ⟨rv3, hnext⟩ := hend.push (x := j + n) hnM (grownBy_of_alloc (grownBy_of_drew hgr)) (by omega) (by omega) (by omega) hown2 (by rw [Hc.out]) rfl (by rcases hat2 with h | h; exact Or.inl h; exact Or.inr (by omega))
              have hnext2 := hnext.congr (fun i _ => halfAt_close j (dealt M O S j).2 n i)
              clear hnext hown2 hgr hat2 hend k2 k3 hown hcell hfrz
              go_wp2
              go_roundw
              case rel => exact ⟨n + 1, rv3, by omega, by go_num, hnext2⟩
              case measure => simp [intOf]; omega
        · have hnM2 : n = M := by omega
          subst hnM2
          have hrows : RowsAt wr (w.heap.size + 1 + 1 + 1) (w.heap.size + 1 + 1) n rv' (rowOf j n O S) := (hend.rows.congr (fun _ _ => rfl) (fun i hi => closedAt_all j n O S i hi)).rebase (by omega) (by omega)
          have hbel := hend.below
          clear hend
          go_wp2
          go_ret2
          exact ⟨_, rv', rfl, hrows, by omega, hbel⟩

set_option maxRecDepth 100000 in
set_option maxHeartbeats 400000 in
theorem wrows_bad (K M O S : Int) (w : World) (hmay : mayB K M O S = false) :
    Calls Try.prog 63 #[specV K M O S] w fun e w' => e = .returned (.tuple #[.slice none 0 0, .int .i64 1]) ∧ Below w.heap.size w w' := by
  go_enter Try.func63, Try.ntmps63
  go_wp2_with fail
  refine (maybe_any _ _ _ _ _).mono ?_
  rintro e w' ⟨rfl, rfl⟩
  rw [hmay]
  go_wp2
  go_ret2
  exact ⟨rfl, ((Below.refl _ _).alloc (Nat.le_refl _) _).alloc (by simp) _⟩

end Go.Proofs.Ytnjaofkieajnlab

/- The document's answer: has, and its Rows; and sameRows, which holds two tables of rows against each other. -/
namespace Go.Proofs.Ytnjaofkieajnlab
open Go.RowKit

/-- The cells of an owned row of numbers. -/
theorem owns_cells {w : World} {base : Nat} {v : Value} {l : List Nat} (h : w.ownsRow base 3 1 v l.length (numsV l)) : (v = .slice none 0 0 ∧ l = []) ∨
    ∃ g cap, v = .slice (some ⟨g, 0, none⟩) l.length cap ∧ l.length ≤ cap ∧ ∀ k, k < l.length → w.cell? ⟨g, k, none⟩ = some (.int .i64 (l.getD k 0 : Int)) := by
  rcases h.2 with ⟨rfl, hn⟩ | ⟨g, cap, cur, rfl, _, hg, hc, _, _, ht⟩
  · exact Or.inl ⟨rfl, by simpa using hn⟩
  · refine Or.inr ⟨g, cap, rfl, hc, fun k hk => ?_⟩
    rw [cell_of_row _ _ _ _ _ _ hg]
    have h1 : (numsV l)[k]? = some (.int .i64 (l.getD k 0 : Int)) := by simp [numsV, hk]
    rw [← ht, List.getElem?_take] at h1
    rw [if_pos (by omega)] at h1
    simpa using h1

end Go.Proofs.Ytnjaofkieajnlab

/- What the document's own Rows (package refillref) does: the same rows in new memory. -/
namespace Go.Proofs.Ytnjaofkieajnlab
open Go.RowKit

/-- Where refillref.Rows stands: the specification's block h, the rows' block g. -/
structure RAt (w wr : World) (h g base K M O S : Nat) (L : Nat → List Nat) (rv : Nat → Value) : Prop where
  spec : wr.heap[h]? = some (specB K M O S)
  rows : RowsAt wr base g M rv L
  below : Below w.heap.size w wr

theorem RAt.congr {w wr : World} {h g base K M O S : Nat} {L L' : Nat → List Nat} {rv : Nat → Value} (a : RAt w wr h g base K M O S L rv) (hl : ∀ i, i < M → L i = L' i) : RAt w wr h g base K M O S L' rv :=
  ⟨a.spec, a.rows.congr (fun _ _ => rfl) hl, a.below⟩

theorem RAt.on {w wr w1 : World} {h g base K M O S : Nat} {L : Nat → List Nat} {rv : Nat → Value} (a : RAt w wr h g base K M O S L rv) (hb : Below wr.heap.size wr w1) : RAt w w1 h g base K M O S L rv :=
  ⟨by rw [hb.block h (Array.getElem?_eq_some_iff.1 a.spec).1]; exact a.spec, a.rows.below hb, a.below.trans (hb.mono a.below.size)⟩

theorem RAt.push {w wr w1 : World} {h g base K M O S n x gg cap n' : Nat} {L : Nat → List Nat} {rv : Nat → Value} {xs : List Value} (a : RAt w wr h g base K M O S L rv)
    (hnM : n < M) (hg1 : wr.grownBy w1 (rv n).ownBlock) (hh : h < base) (hhg : h ≠ g) (hwg : w.heap.size ≤ g)
    (hown : w1.ownsRow base 3 1 (.slice (some ⟨gg, 0, none⟩) n' cap) n' xs) (hxs : xs = numsV (L n) ++ [.int .i64 (x : Int)]) (hn' : n' = (L n).length + 1) (hat : (rv n).ownBlock = some gg ∨ wr.heap.size ≤ gg) :
    ∃ rv', RAt w (w1.setCell ⟨g, n, none⟩ (.slice (some ⟨gg, 0, none⟩) n' cap)) h g base K M O S (fun k => if k = n then L n ++ [x] else L k) rv' := by
  have hrow := (a.rows.own n hnM).lt
  have hgb := a.rows.gb
  have hhl : h < wr.heap.size := (Array.getElem?_eq_some_iff.1 a.spec).1
  refine ⟨_, ?_, a.rows.push hnM hg1 hown hxs hn' hat, ?_⟩
  · rw [Below.heap_setCell _ _ _ _ (by exact hhg), hg1.block h hhl (fun e => by have := hrow h e.symm; omega)]; exact a.spec
  · exact (((Chg.of_below a.below (fun _ => False)).grown hg1 (fun k e => Or.inl (by have := hrow k e; omega))).setCell (Or.inl hwg) _).below (fun _ _ f => f)

end Go.Proofs.Ytnjaofkieajnlab

/- sameRows says yes to two tables of the same rows. -/
namespace Go.Proofs.Ytnjaofkieajnlab
open Go.RowKit

/-- What a slice of numbers that is owned looks like. -/
theorem owns_view {w : World} {base : Nat} {v : Value} {l : List Nat} (h : w.ownsRow base 3 1 v l.length (numsV l)) :
    ∃ ao cap, v = .slice ao l.length cap ∧ ∀ k, k < l.length → ∃ q, ao = some ⟨q, 0, none⟩ ∧ w.cell? ⟨q, k, none⟩ = some (.int .i64 (l.getD k 0 : Int)) := by
  rcases owns_cells h with ⟨rfl, rfl⟩ | ⟨g, cap, rfl, _, hc⟩
  · exact ⟨none, 0, rfl, fun k hk => by simp at hk⟩
  · exact ⟨_, cap, rfl, fun k hk => ⟨g, rfl, hc k hk⟩⟩

end Go.Proofs.Ytnjaofkieajnlab

/- The document's own sums: noughts, plus, total. -/
namespace Go.Proofs.Ytnjaofkieajnlab
open Go.RowKit

theorem Try.infoByte : (Try.prog.info? 5).map (fun i => (i.zero, i.size, i.bytes)) = some (some (.int .u8 0), 1, 1) := by kernel_rfl
theorem Try.infoText : (Try.prog.info? 9).map (fun i => (i.zero, i.size, i.bytes)) = some (some (.string ByteArray.empty), 1, 16) := by kernel_rfl

theorem strOfNums_numsB (a : ByteArray) : strOfNums (numsB a) = a := by
  cases a with
  | mk d =>
    have h : ((fun n : Int => UInt8.ofNat n.toNat) ∘ fun b : UInt8 => (b.toNat : Int)) = id := by funext b; simp
    unfold strOfNums numsB
    rw [List.map_map, h, List.map_id]

/-- Bytes as values. -/
def bytesV (a : ByteArray) : List Value := (numsB a).map (Value.int .u8)

theorem bytesV_getElem (a : ByteArray) (i : Nat) (h : i < a.size) : (bytesV a)[i]? = some (.int .u8 ((byteAt a i).toNat : Int)) := by
  unfold bytesV
  rw [List.getElem?_map]
  have h2 : (numsB a)[i]? = some ((numsB a).getD i 0) := by
    rw [List.getD_eq_getElem?_getD, List.getElem?_eq_getElem (by rw [numsB_length]; exact h)]; rfl
  rw [h2, numsB_getD]; rfl

/-- The bytes of the sum as far as k. -/
theorem bytesV_take_succ (a b : ByteArray) (h : a.size = b.size) (k : Nat) (hk : k < a.size) :
    (bytesV (xorB a b)).take (k + 1) = (bytesV (xorB a b)).take k ++ [.int .u8 (((byteAt a k).toNat ^^^ (byteAt b k).toNat : Nat) : Int)] := by
  have hl : k < (bytesV (xorB a b)).length := by unfold bytesV; rw [List.length_map, numsB_length, xorB_size h]; exact hk
  rw [List.take_succ_eq_append_getElem hl]
  have h1 := bytesV_getElem (xorB a b) k (by rw [xorB_size h]; exact hk)
  rw [List.getElem?_eq_getElem hl, byteAt_xorB h k hk, toNat_xor] at h1
  simp only [Option.some.injEq] at h1
  rw [h1]

theorem bytesV_length (a : ByteArray) : (bytesV a).length = a.size := by unfold bytesV; rw [List.length_map, numsB_length]

/-- The cells of an owned row of bytes. -/
theorem owns_bytes {w : World} {base : Nat} {v : Value} {a : ByteArray} (h : w.ownsRow base 5 1 v a.size (bytesV a)) (h0 : 0 < a.size) :
    ∃ g cap, v = .slice (some ⟨g, 0, none⟩) a.size cap ∧ ∀ k, k < a.size → w.cell? ⟨g, 0 + k, none⟩ = some (.int .u8 ((numsB a).getD k 0)) := by
  rcases h.2 with ⟨rfl, hn⟩ | ⟨g, cap, cur, rfl, _, hg, hc, _, _, ht⟩
  · omega
  · refine ⟨g, cap, rfl, fun k hk => ?_⟩
    rw [cell_of_row _ _ _ _ _ _ hg, Nat.zero_add]
    have h1 := bytesV_getElem a k hk
    rw [← ht, List.getElem?_take] at h1
    rw [if_pos (by omega)] at h1
    rw [numsB_getD]
    simpa using h1

/-- A slice of texts, as it is read: its elements are l. -/
def TextsAt (w : World) (v : Value) (l : List ByteArray) : Prop :=
  ∃ ao cap, v = .slice ao l.length cap ∧ l.length ≤ cap ∧ ∀ k, k < l.length → ∃ q o, ao = some ⟨q, o, none⟩ ∧ q < w.heap.size ∧ w.cell? ⟨q, o + k, none⟩ = some (.string (l.getD k ByteArray.empty))

theorem TextsAt.on {w w1 : World} {v : Value} {l : List ByteArray} (h : TextsAt w v l) (hb : Below w.heap.size w w1) : TextsAt w1 v l := by
  obtain ⟨ao, cap, hv, hl, hc⟩ := h
  refine ⟨ao, cap, hv, hl, fun k hk => ?_⟩
  obtain ⟨q, o, ha, hq, hcell⟩ := hc k hk
  exact ⟨q, o, ha, Nat.lt_of_lt_of_le hq hb.size, by rw [hb.cell hq]; exact hcell⟩

end Go.Proofs.Ytnjaofkieajnlab

/- The program's sum of the pieces of a row. -/
namespace Go.Proofs.Ytnjaofkieajnlab
open Go.RowKit

/-- A byte of a sum that is being made: piece p is added as far as k. -/
def halfByte (t p : ByteArray) (k i : Nat) : UInt8 := if i < k then byteAt t i ^^^ byteAt p i else byteAt t i

theorem halfByte_zero (t p : ByteArray) (i : Nat) : halfByte t p 0 i = byteAt t i := by simp [halfByte]
theorem halfByte_here (t p : ByteArray) (k : Nat) : halfByte t p k k = byteAt t k := by simp [halfByte]
theorem halfByte_all (t p : ByteArray) (h : t.size = p.size) (i : Nat) (hi : i < t.size) : halfByte t p t.size i = byteAt (xorB t p) i := by
  rw [byteAt_xorB h i hi]; simp [halfByte, hi]

/-- A row of bytes, by the index. -/
abbrev byteRow (w : World) (g n : Nat) (f : Nat → UInt8) : Prop := w.rowIs g 5 n (fun i => .int .u8 ((f i).toNat : Int))

theorem byteRow_step {w : World} {g n : Nat} {t p : ByteArray} {k : Nat} (h : byteRow w g n (halfByte t p k)) :
    byteRow (w.setCell ⟨g, k, none⟩ (.int .u8 (((byteAt t k).toNat ^^^ (byteAt p k).toNat : Nat) : Int))) g n (halfByte t p (k + 1)) := by
  refine (h.set k _).congr (fun i _ => ?_)
  by_cases e : i = k
  · subst e
    rw [if_pos rfl, ← toNat_xor]
    simp [halfByte]
  · rw [if_neg e]
    unfold halfByte
    by_cases l : i < k
    · rw [if_pos l, if_pos (show i < k + 1 from by omega)]
    · rw [if_neg l, if_neg (show ¬ i < k + 1 from by omega)]

theorem run_make_bytes (n : Nat) (hn : n ≤ 1000000) (w : World) : (Instr.makeSlice 55 (.int .i64 (n : Int)) (.int .i64 (n : Int))).run Try.prog w = .ok (.slice (some ⟨w.heap.size, 0, none⟩) n n) (w.alloc (.cells (madeCells #[.int .u8 0] n) 5)) :=
  run_make_row' (P := Try.prog) 55 5 (.int .u8 0) 1 Try.underlying55 Try.infoByte rfl .i64 .i64 n (by omega) (by omega) w

set_option maxRecDepth 100000 in
set_option maxHeartbeats 4000000 in
theorem sum_any (v rv : Value) (l : List ByteArray) (row : List Nat) (size base : Nat) (w : World) (hr : row.length ≤ 1000000) (hrb : ∀ j ∈ row, j ≤ 1000000) (hs : size ≤ 1000) (hsz : ∀ x ∈ l, x.size = size)
    (hown : w.ownsRow base 3 1 rv row.length (numsV row)) (ht : TextsAt w v l) :
    Calls Try.prog 65 #[v, rv, .int .i64 (size : Int)] w fun e w' => e = .returned (.string (sumB l row size)) ∧ Below w.heap.size w w' := by
  obtain ⟨ra, rcap, rfl, hrc⟩ := owns_view hown
  obtain ⟨ao, cap, rfl, hcap, hc⟩ := ht
  have hmk := run_make_bytes size (by omega)
  have HC := hide hc
  have HR := hide hrc
  have HS := hide hsz
  have HB := hide hrb
  clear hc hrc hsz hown hrb
  go_enter Try.func65, Try.ntmps65
  go_wp2_with fail
  clear hmk
  go_loopw [16] (fun i wr => ∃ k : Nat, k ≤ row.length ∧ i = .int .i64 k ∧ byteRow wr w.heap.size size (byteAt (sumB l (row.take k) size)) ∧ Below w.heap.size w wr) (fun i _ => row.length - (intOf i).toNat)
  case atStart =>
    refine ⟨0, Nat.zero_le _, rfl, (World.rowIs_made w (.int .u8 0) size 5).congr (fun i _ => ?_), (Below.refl _ _).alloc (Nat.le_refl _) _⟩
    show Value.int .u8 0 = .int .u8 ((byteAt (zeroB size) i).toNat : Int)
    rw [byteAt_zeroB]; rfl
  case round =>
    obtain ⟨k, hk, rfl, hrow, hbel⟩ := hrel
    by_cases hlt : k < row.length
    · obtain ⟨qr, rfl, hcr⟩ := HR.out k hlt
      have hj : row.getD k 0 = row[k] := by simp [hlt]
      have hjb : row.getD k 0 ≤ 1000000 := by rw [hj]; exact HB.out _ (List.getElem_mem hlt)
      have hts := sumB_take_succ l row size k hlt
      rw [← hj] at hts
      have hts2 := sumB_size HS.out (row.take k)
      have hcr2 := (hbel.cell (p := ⟨qr, k, none⟩) (block_lt_of_cell hcr)).trans hcr
      clear hj hcr
      generalize row.getD k 0 = j at *
      generalize sumB l (row.take k) size = t at *
      by_cases hjl : j < l.length
      · obtain ⟨q, o, rfl, hq, hpc⟩ := HC.out j hjl
        have hps : (l.getD j ByteArray.empty).size = size := HS.out _ (by rw [List.getD_eq_getElem?_getD, List.getElem?_eq_getElem hjl]; exact List.getElem_mem hjl)
        have hpc2 := (hbel.cell (p := ⟨q, o + j, none⟩) hq).trans hpc
        have hts3 : sumB l (row.take (k + 1)) size = xorB t (l.getD j ByteArray.empty) := by rw [hts]; unfold addAt; rw [if_pos hjl]
        clear hpc hts
        generalize l.getD j ByteArray.empty = p at *
        have Ht := hide hts3
        have Hts := hide hts2
        have Hps := hide hps
        clear hts3 hts2 hps
        have i1 : (0 : Int) ≤ (j : Int) := by omega
        have i2 : (j : Int) < (l.length : Int) := by omega
        have hrow0 : byteRow wr w.heap.size size (halfByte t p 0) := hrow.congr (fun i _ => by rw [halfByte_zero])
        clear hrow
        go_wp2_with fail
        clear hpc2 hcr2
        go_loopw [11] (fun i wr => ∃ n : Nat, n ≤ size ∧ i = .int .i64 n ∧ byteRow wr w.heap.size size (halfByte t p n) ∧ Below w.heap.size w wr) (fun i _ => size - (intOf i).toNat)
        case atStart => exact ⟨0, Nat.zero_le _, rfl, hrow0, hbel⟩
        case round =>
          clear hrow0 hbel
          obtain ⟨n, hn, rfl, hrow, hbel⟩ := hrel
          by_cases hns : n < size
          · have hcell := hrow.cell hns
            have hfrz := hrow.frozen n
            rw [halfByte_here] at hcell
            have hpn : n < p.size := by rw [Hps.out]; exact hns
            have g2 := byteAt_get p n hpn
            have hx := u8_xor_nat (byteAt t n).toNat (byteAt p n).toNat (byteAt t n).toNat_lt (byteAt p n).toNat_lt
            have hnext := byteRow_step hrow
            have hb2 := hbel.setCell (p := ⟨w.heap.size, n, none⟩) (Nat.le_refl _) (.int .u8 (((byteAt t n).toNat ^^^ (byteAt p n).toNat : Nat) : Int))
            have i3 : (0 : Int) ≤ (n : Int) := by omega
            have i4 : (n : Int) < (size : Int) := by omega
            have i5 : (n : Int) < (p.size : Int) := by omega
            clear hrow hbel
            go_wp2_with fail
            go_region
            all_goals
              clear hcell hfrz g2 hx
              go_wp2
              go_roundw
              case rel => exact ⟨n + 1, by omega, by go_num, hnext, hb2.drew⟩
              case measure => simp [intOf]; omega
          · have hnn : n = size := by omega
            subst hnn
            have hnext : byteRow wr w.heap.size n (byteAt (sumB l (row.take (k + 1)) n)) := by
              rw [Ht.out]
              refine hrow.congr (fun i hi => ?_)
              rw [← halfByte_all t p (by rw [Hts.out, Hps.out]) i (by rw [Hts.out]; exact hi), Hts.out]
            clear hrow
            go_wp2
            go_roundw
            case rel => exact ⟨k + 1, by omega, by go_num, hnext, hbel⟩
            case measure => simp [intOf]; omega
      · have hts3 : sumB l (row.take (k + 1)) size = t := by rw [hts]; unfold addAt; rw [if_neg hjl]
        have Ht := hide hts3
        clear hts hts3
        go_wp2
        go_roundw
        case rel => exact ⟨k + 1, by omega, by go_num, by rw [Ht.out]; exact hrow, hbel⟩
        case measure => simp [intOf]; omega
    · have hall : row.take k = row := List.take_of_length_le (by omega)
      rw [hall] at hrow
      have hsz2 := sumB_size HS.out row
      have hc : ∀ i, i < size → wr.cell? ⟨w.heap.size, 0 + i, none⟩ = some (.int .u8 ((numsB (sumB l row size)).getD i 0)) := fun i hi => by
        rw [Nat.zero_add, numsB_getD]; exact hrow.cell hi
      have hcv := run_convert_bytes_arg (P := Try.prog) wr 55 5 Try.underlying55 Try.underlying5 w.heap.size 0 size size (numsB (sumB l row size)) (by rw [numsB_length]; exact hsz2) hc 9 Try.underlying9
      rw [strOfNums_numsB] at hcv
      clear hc hrow hall hsz2
      go_wp2
      go_ret
      exact ⟨rfl, hbel⟩

end Go.Proofs.Ytnjaofkieajnlab

/- Go's own bit operations on ints that are no less than nought, as numbers. Nothing of the program. -/
namespace Go.Proofs.Ytnjaofkieajnlab

theorem ofInt64 (a : Nat) (ha : a < 9223372036854775808) : (BitVec.ofInt 64 (a : Int)).toNat = a := by
  rw [BitVec.ofInt_natCast, BitVec.toNat_ofNat]; exact Nat.mod_eq_of_lt (by omega)

theorem wrapNat (n : Nat) (h : n < 9223372036854775808) : IntKind.i64.wrap (n : Int) = (n : Int) := IntWalk.i64_in _ (by omega)

theorem i64_and_nat (a b : Nat) (ha : a < 9223372036854775808) (hb : b < 9223372036854775808) : bits .and .i64 (a : Int) (b : Int) = ((a &&& b : Nat) : Int) := by
  have hx : a &&& b < 2 ^ 63 := Nat.and_lt_two_pow _ (by omega)
  show IntKind.i64.wrap ((BitVec.ofInt 64 (a : Int) &&& BitVec.ofInt 64 (b : Int)).toNat : Int) = _
  rw [BitVec.toNat_and, ofInt64 a ha, ofInt64 b hb]
  exact wrapNat _ (by omega)

theorem i64_or_nat (a b : Nat) (ha : a < 9223372036854775808) (hb : b < 9223372036854775808) : bits .or .i64 (a : Int) (b : Int) = ((a ||| b : Nat) : Int) := by
  have hx : a ||| b < 2 ^ 63 := Nat.or_lt_two_pow (by omega) (by omega)
  show IntKind.i64.wrap ((BitVec.ofInt 64 (a : Int) ||| BitVec.ofInt 64 (b : Int)).toNat : Int) = _
  rw [BitVec.toNat_or, ofInt64 a ha, ofInt64 b hb]
  exact wrapNat _ (by omega)

theorem i64_xor_nat (a b : Nat) (ha : a < 9223372036854775808) (hb : b < 9223372036854775808) : bits .xor .i64 (a : Int) (b : Int) = ((a ^^^ b : Nat) : Int) := by
  have hx : a ^^^ b < 2 ^ 63 := Nat.xor_lt_two_pow (by omega) (by omega)
  show IntKind.i64.wrap ((BitVec.ofInt 64 (a : Int) ^^^ BitVec.ofInt 64 (b : Int)).toNat : Int) = _
  rw [BitVec.toNat_xor, ofInt64 a ha, ofInt64 b hb]
  exact wrapNat _ (by omega)

theorem div_cast (a b : Nat) : (a : Int) / 2 ^ b = ((a / 2 ^ b : Nat) : Int) := by
  rw [Int.natCast_ediv, Int.natCast_pow]; rfl

theorem div_lt (a b : Nat) (h : a < 9223372036854775808) : a / 2 ^ b < 9223372036854775808 := Nat.lt_of_le_of_lt (Nat.div_le_self _ _) h

theorem bit_one (a b : Nat) (h : a < 9223372036854775808) : bits .and .i64 ((a : Int) / 2 ^ b) 1 = if a.testBit b then 1 else 0 := by
  rw [div_cast, show (1 : Int) = ((1 : Nat) : Int) from rfl, i64_and_nat _ _ (div_lt a b h) (by omega), ← Nat.shiftRight_eq_div_pow, Nat.and_one_is_mod, Nat.testBit, Nat.one_and_eq_mod_two]
  rcases Nat.mod_two_eq_zero_or_one (a >>> b) with h | h <;> rw [h] <;> rfl

theorem bit_off (a b : Nat) (h : a < 9223372036854775808) : (bits .and .i64 ((a : Int) / 2 ^ b) 1 == 0) = !(a.testBit b) := by
  rw [bit_one a b h]; cases a.testBit b <;> rfl

theorem bit_on (a b : Nat) (h : a < 9223372036854775808) : (bits .and .i64 ((a : Int) / 2 ^ b) 1 == 1) = a.testBit b := by
  rw [bit_one a b h]; cases a.testBit b <;> rfl

end Go.Proofs.Ytnjaofkieajnlab

/- The small functions of the program's boxes: noughts and the highest data. -/
namespace Go.Proofs.Ytnjaofkieajnlab
open Go.RowKit

theorem shl_small (x : Nat) (h : x < 40) : RowKit.wrap64 (2 ^ x) = ((2 ^ x : Nat) : Int) ∧ IntKind.i64.wrap (2 ^ x) = ((2 ^ x : Nat) : Int) := by
  have h1 : 2 ^ x < 1099511627776 := Nat.lt_of_lt_of_le (Nat.pow_lt_pow_right (by omega) h) (by decide)
  have h2 : (2 : Int) ^ x = ((2 ^ x : Nat) : Int) := by rw [Int.natCast_pow]; rfl
  rw [h2]
  generalize 2 ^ x = y at *
  constructor
  · unfold RowKit.wrap64
    omega
  · exact wrapNat _ (by omega)

theorem and_unit (x j : Nat) : x &&& 2 ^ j = if x.testBit j then 2 ^ j else 0 := by
  apply Nat.eq_of_testBit_eq
  intro i
  rw [Nat.testBit_and, Nat.testBit_two_pow]
  by_cases e : j = i
  · subst e
    cases h : x.testBit j <;> simp
  · cases h : x.testBit j <;> simp [e]

/-- Whether a number has a bit, as the program asks. -/
theorem bit_eq (x j : Nat) (hx : x < 1099511627776) (hj : j < 40) : (bits .and .i64 (x : Int) (RowKit.wrap64 (2 ^ j)) == 0) = !(x.testBit j) ∧ (bits .and .i64 (x : Int) (IntKind.i64.wrap (2 ^ j)) == 0) = !(x.testBit j) := by
  obtain ⟨h1, h2⟩ := shl_small j hj
  have h3 : 2 ^ j < 1099511627776 := Nat.lt_of_lt_of_le (Nat.pow_lt_pow_right (by omega) hj) (by decide)
  rw [h1, h2, i64_and_nat x (2 ^ j) (by omega) (by omega), and_unit]
  have h0 : 0 < 2 ^ j := Nat.two_pow_pos j
  cases x.testBit j
  · simp
  · have : ¬ ((2 ^ j : Nat) : Int) = 0 := by omega
    refine ⟨?_, ?_⟩ <;> simp only [if_true] <;> exact beq_eq_false_iff_ne.2 this

theorem bit_ne (x j : Nat) (hx : x < 1099511627776) (hj : j < 40) : (bits .and .i64 (x : Int) (RowKit.wrap64 (2 ^ j)) != 0) = x.testBit j ∧ (bits .and .i64 (x : Int) (IntKind.i64.wrap (2 ^ j)) != 0) = x.testBit j := by
  obtain ⟨h1, h2⟩ := bit_eq x j hx hj
  unfold bne
  rw [h1, h2, Bool.not_not]
  exact ⟨rfl, rfl⟩

set_option maxRecDepth 100000 in
set_option maxHeartbeats 1000000 in
theorem bnoughts_any (z : Nat) (w : World) (hz : z ≤ 1000) :
    Calls Try.prog 44 #[.int .i64 (z : Int)] w fun e w' => e = .returned (.string (zeroB z)) ∧ Below w.heap.size w w' := by
  have hmk := run_make_bytes z (by omega)
  have hrow : byteRow (w.alloc (.cells (madeCells #[.int .u8 0] z) 5)) w.heap.size z (byteAt (zeroB z)) := (World.rowIs_made w (.int .u8 0) z 5).congr (fun i _ => by rw [byteAt_zeroB]; rfl)
  have hc : ∀ i, i < z → (w.alloc (.cells (madeCells #[.int .u8 0] z) 5)).cell? ⟨w.heap.size, 0 + i, none⟩ = some (.int .u8 ((numsB (zeroB z)).getD i 0)) := fun i hi => by
    rw [Nat.zero_add, numsB_getD]; exact hrow.cell hi
  have hcv := run_convert_bytes_arg (P := Try.prog) (w.alloc (.cells (madeCells #[.int .u8 0] z) 5)) 55 5 Try.underlying55 Try.underlying5 w.heap.size 0 z z (numsB (zeroB z)) (by rw [numsB_length]; exact zeroB_size z) hc 9 Try.underlying9
  rw [strOfNums_numsB] at hcv
  clear hc hrow
  go_enter Try.func44, Try.ntmps44
  go_wp2
  go_ret
  exact ⟨rfl, (Below.refl _ _).alloc (Nat.le_refl _) _⟩

set_option maxRecDepth 100000 in
set_option maxHeartbeats 1000000 in
theorem highest_any (x : Nat) (w : World) (hx : x < 1048576) (h0 : x ≠ 0) :
    Calls Try.prog 45 #[.int .i64 (x : Int)] w fun e w' => e = .returned (.int .i64 (x.log2 : Int)) ∧ w' = w := by
  have htop := top_of h0
  have h20 : x.log2 < 20 := (Nat.log2_lt h0).2 hx
  go_enter Try.func45, Try.ntmps45
  go_wp2
  go_loop [3] (fun jv => ∃ j : Nat, j < 20 ∧ jv = .int .i64 (j : Int) ∧ x.log2 ≤ j) (fun jv => (intOf jv).toNat)
  case atStart => exact ⟨19, by omega, rfl, by omega⟩
  case round =>
    obtain ⟨j, hj, rfl, hle⟩ := hrel
    obtain ⟨b1, b2⟩ := bit_ne x j (by omega) (by omega)
    clear b2
    by_cases hj0 : j = 0
    · subst hj0
      have e : x.log2 = 0 := by omega
      clear b1
      go_wp2
      go_ret
      exact ⟨rfl, rfl⟩
    · have hpos : (0 : Int) < (j : Int) := by omega
      by_cases e : x.log2 = j
      · have ht : x.testBit j = true := by rw [← e]; exact htop.1
        rw [ht] at b1
        go_wp2
        go_ret
        exact ⟨rfl, rfl⟩
      · have ht : x.testBit j = false := htop.2 j (by omega)
        rw [ht] at b1
        go_wp2
        go_round
        case rel => exact ⟨j - 1, by omega, by go_num, by omega⟩
        case measure => simp [intOf]; omega

end Go.Proofs.Ytnjaofkieajnlab
