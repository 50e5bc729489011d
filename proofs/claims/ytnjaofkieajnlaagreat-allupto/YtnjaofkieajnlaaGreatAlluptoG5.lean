/- Texts of the proof, part 6. -/
import Derived.Deep.DeepCutAuto
import Derived.Deep.DrawnRows
import Derived.Deep.RegionHeld3
import Derived.Deep.RegionLaw
import Derived.Test.YtnjaofkieajnlaaGreatAlluptoG4

/- What the program's Rows (package word) does: the rows of the specification in new memory, or an error. -/
namespace Go.Proofs.YtnjaofkieajnlaaGreat
open Go.RowKit

theorem Tryz.infoInt : (Tryz.prog.info? 3).map (fun i => (i.zero, i.size, i.bytes)) = some (some (.int .i64 0), 1, 8) := by kernel_rfl
theorem Tryz.infoInts : (Tryz.prog.info? 63).map (fun i => (i.zero, i.size, i.bytes)) = some (some (.slice none 0 0), 1, 24) := by kernel_rfl

/-- A specification's cells. -/
abbrev specB (K M O S : Nat) : Obj := .cells #[.int .i64 (K : Int), .int .i64 (M : Int), .int .i64 (O : Int), .int .i64 (S : Int)] 25 (0, 0)

/-- Where word.Rows stands behind j pieces: the specification's block h, the rows' block g, the drawer's block b. -/
structure WAt (w wr : World) (h g b base K M O S j : Nat) (rv : Nat → Value) : Prop where
  spec : wr.heap[h]? = some (specB K M O S)
  drawer : wr.heap[b]? = some (.cells #[.int .i64 ((dealt M O S j).1 : Int)] 172 (0, 0))
  rows : RowsAt wr base g M rv (dealt M O S j).2
  below : Below w.heap.size w wr

theorem spec_cells {w : World} {h K M O S : Nat} (hs : w.heap[h]? = some (specB K M O S)) :
    w.cell? ⟨h, 0, none⟩ = some (.int .i64 (K : Int)) ∧ w.cell? ⟨h, 1, none⟩ = some (.int .i64 (M : Int)) ∧ w.cell? ⟨h, 2, none⟩ = some (.int .i64 (O : Int)) ∧ w.cell? ⟨h, 3, none⟩ = some (.int .i64 (S : Int)) := by
  refine ⟨?_, ?_, ?_, ?_⟩ <;> (rw [cell_of_row _ _ _ _ _ _ hs]; rfl)

/-- .. and behind n rows of piece j, the chosen rows in block c. -/
structure WIn (w wr : World) (h g b base c K M O S j n : Nat) (rv : Nat → Value) : Prop where
  spec : wr.heap[h]? = some (specB K M O S)
  drawer : wr.heap[b]? = some (.cells #[.int .i64 ((dealt M O S (j + 1)).1 : Int)] 172 (0, 0))
  marks : wr.rowIs c 162 20 (fun i => .bool ((drawn M (dealt M O S j).1 O).2 i))
  rows : RowsAt wr base g M rv (withPiece (upTo (drawn M (dealt M O S j).1 O).2 n) j (dealt M O S j).2)
  below : Below w.heap.size w wr

theorem WAt.enter {w wr w1 : World} {h g b base K M O S j : Nat} {rv : Nat → Value} {cs old : Array Value} (a : WAt w wr h g b base K M O S j rv) (hh : h ≠ b) (hg : g ≠ b) (hb : b < base) (hwb : w.heap.size ≤ b)
    (c : Chg (fun k => k = b) wr w1) (hd : w1.heap[b]? = some (.cells #[.int .i64 ((drawn M (dealt M O S j).1 O).1 : Int)] 172 (0, 0))) (hm : MarksAt cs (drawn M (dealt M O S j).1 O).2) :
    WIn w ((w1.alloc (.cells old 162)).setRow w1.heap.size cs) h g b base w1.heap.size K M O S j 0 rv := by
  have hold : ∀ k, k < w1.heap.size → ((w1.alloc (.cells old 162)).setRow w1.heap.size cs).heap[k]? = w1.heap[k]? := fun k hk => by
    rw [setRow_other _ _ _ _ (by omega), Below.heap_alloc _ _ _ hk]
  have hhl : h < wr.heap.size := (Array.getElem?_eq_some_iff.1 a.spec).1
  have hbl : b < w1.heap.size := (Array.getElem?_eq_some_iff.1 hd).1
  have hs := c.size
  have hbw := a.below.size
  refine ⟨?_, ?_, ?_, ?_, ?_⟩
  · rw [hold h (by omega), c.block h hhl hh]; exact a.spec
  · rw [hold b hbl]; exact hd
  · exact ⟨cs, setRow_heap _ _ _ _ _ _ (heap_alloc_new w1 _), hm.size, hm.at_⟩
  · have h1 := a.rows.chg c hg (fun k hk _ e => by omega)
    have h2 := h1.kept (w' := (w1.alloc (.cells old 162)).setRow w1.heap.size cs) (hold g h1.row.lt) (fun k _ hk => hold k hk)
    refine h2.congr (fun _ _ => rfl) (fun i _ => ?_)
    rw [upTo_zero, withPiece_none]
  · exact ((((Chg.of_below a.below (fun _ => False)).trans c (fun k hk e => by omega)).alloc _).setRow (Or.inl (by omega)) _).below (fun _ _ f => f)

theorem WIn.skip {w wr : World} {h g b base c K M O S j n : Nat} {rv : Nat → Value} (a : WIn w wr h g b base c K M O S j n rv) (hn : (drawn M (dealt M O S j).1 O).2 n = false) :
    WIn w wr h g b base c K M O S j (n + 1) rv :=
  ⟨a.spec, a.drawer, a.marks, a.rows.congr (fun _ _ => rfl) (fun i _ => by unfold withPiece; rw [upTo_skip _ _ _ hn]), a.below⟩

/-- The rows as far as they are closed. -/
structure WEnd (w wr : World) (h g base K M : Nat) (L : Nat → List Nat) (rv : Nat → Value) : Prop where
  spec : ∃ m o s : Nat, wr.heap[h]? = some (specB K m o s)
  rows : RowsAt wr base g M rv L
  below : Below w.heap.size w wr

theorem WEnd.push {w wr w1 : World} {h g base K M n x gg cap n' : Nat} {L : Nat → List Nat} {rv : Nat → Value} {xs : List Value} (a : WEnd w wr h g base K M L rv)
    (hnM : n < M) (hg1 : wr.grownBy w1 (rv n).ownBlock) (hh : h < base) (hhg : h ≠ g) (hwg : w.heap.size ≤ g)
    (hown : w1.ownsRow base 3 1 (.slice (some ⟨gg, 0, none⟩) n' cap) n' xs) (hxs : xs = numsV (L n) ++ [.int .i64 (x : Int)]) (hn' : n' = (L n).length + 1) (hat : (rv n).ownBlock = some gg ∨ wr.heap.size ≤ gg) :
    ∃ rv', WEnd w (w1.setCell ⟨g, n, none⟩ (.slice (some ⟨gg, 0, none⟩) n' cap)) h g base K M (fun k => if k = n then L n ++ [x] else L k) rv' := by
  have hrow := (a.rows.own n hnM).lt
  have hgb := a.rows.gb
  obtain ⟨m, o, s, hs⟩ := a.spec
  have hhl : h < wr.heap.size := (Array.getElem?_eq_some_iff.1 hs).1
  refine ⟨_, ⟨m, o, s, ?_⟩, a.rows.push hnM hg1 hown hxs hn' hat, ?_⟩
  · rw [Below.heap_setCell _ _ _ _ (by exact hhg), hg1.block h hhl (fun e => by have := hrow h e.symm; omega)]; exact hs
  · exact (((Chg.of_below a.below (fun _ => False)).grown hg1 (fun k e => Or.inl (by have := hrow k e; omega))).setCell (Or.inl hwg) _).below (fun _ _ f => f)

theorem WEnd.congr {w wr : World} {h g base K M : Nat} {L L' : Nat → List Nat} {rv : Nat → Value} (a : WEnd w wr h g base K M L rv) (hl : ∀ i, i < M → L i = L' i) : WEnd w wr h g base K M L' rv :=
  ⟨a.spec, a.rows.congr (fun _ _ => rfl) hl, a.below⟩

theorem WEnd.drew {w wr : World} {h g base K M : Nat} {L : Nat → List Nat} {rv : Nat → Value} (a : WEnd w wr h g base K M L rv) : WEnd w wr.drew h g base K M L rv :=
  ⟨a.spec, a.rows.drew, a.below.drew⟩

/-- A row has been appended to and stored back. -/
theorem WIn.take {w wr w1 : World} {h g b base c K M O S j n gg cap n' : Nat} {rv : Nat → Value} {xs : List Value} (a : WIn w wr h g b base c K M O S j n rv)
    (hn : (drawn M (dealt M O S j).1 O).2 n = true) (hnM : n < M) (hg1 : wr.grownBy w1 (rv n).ownBlock) (hh : h < base) (hb : b < base) (hhg : h ≠ g) (hbg : b ≠ g) (hcg : c ≠ g) (hwg : w.heap.size ≤ g)
    (hown : w1.ownsRow base 3 1 (.slice (some ⟨gg, 0, none⟩) n' cap) n' xs) (hxs : xs = numsV (withPiece (upTo (drawn M (dealt M O S j).1 O).2 n) j (dealt M O S j).2 n) ++ [.int .i64 (j : Int)])
    (hn' : n' = (withPiece (upTo (drawn M (dealt M O S j).1 O).2 n) j (dealt M O S j).2 n).length + 1) (hat : (rv n).ownBlock = some gg ∨ wr.heap.size ≤ gg) :
    ∃ rv', WIn w (w1.setCell ⟨g, n, none⟩ (.slice (some ⟨gg, 0, none⟩) n' cap)) h g b base c K M O S j (n + 1) rv' := by
  have hrow := (a.rows.own n hnM).lt
  have hc := owns_ne (a.rows.own n hnM) a.marks (by decide)
  have hgb := a.rows.gb
  have hkeep : ∀ k, k < wr.heap.size → k ≠ g → (∀ q, (rv n).ownBlock = some q → q ≠ k) → (w1.setCell ⟨g, n, none⟩ (.slice (some ⟨gg, 0, none⟩) n' cap)).heap[k]? = wr.heap[k]? := fun k hk hkg hq => by
    rw [Below.heap_setCell _ _ _ _ (by exact hkg)]
    exact hg1.block k hk (fun e => hq k e.symm rfl)
  have hlow : ∀ k, k < base → ∀ q, (rv n).ownBlock = some q → q ≠ k := fun k hk q hq => by have := hrow q hq; omega
  have hhl : h < wr.heap.size := (Array.getElem?_eq_some_iff.1 a.spec).1
  have hbl : b < wr.heap.size := (Array.getElem?_eq_some_iff.1 a.drawer).1
  refine ⟨_, ?_, ?_, ?_, (a.rows.push hnM hg1 hown hxs hn' hat).congr (fun _ _ => rfl) (fun i _ => upTo_take _ j n _ hn i), ?_⟩
  · rw [hkeep h hhl hhg (hlow h hh)]; exact a.spec
  · rw [hkeep b hbl hbg (hlow b hb)]; exact a.drawer
  · exact a.marks.of_block (hkeep c a.marks.lt hcg hc)
  · have hws := a.below.size
    exact (((Chg.of_below a.below (fun _ => False)).grown hg1 (fun k e => Or.inl (by have := hrow k e; omega))).setCell (Or.inl hwg) _).below (fun _ _ f => f)

theorem WIn.leave {w wr : World} {h g b base c K M O S j : Nat} {rv : Nat → Value} (a : WIn w wr h g b base c K M O S j M rv) : WAt w wr h g b base K M O S (j + 1) rv :=
  ⟨a.spec, a.drawer, a.rows.congr (fun _ _ => rfl) (fun i hi => by rw [dealt_succ]; unfold withPiece; rw [upTo_same _ _ _ hi]), a.below⟩

set_option maxRecDepth 100000 in
set_option maxHeartbeats 2000000 in
theorem wrows_ok (K M O S : Nat) (w : World) (hK : 1 ≤ K ∧ K ≤ 20) (hM : 1 ≤ M ∧ M ≤ 20) (hO : 1 ≤ O ∧ O ≤ M) (hS : S ≤ 65535) :
    Calls Tryz.prog 84 #[specV K M O S] w fun e w' => ∃ g rv, e = .returned (.tuple #[.slice (some ⟨g, 0, none⟩) M M, .int .i64 0]) ∧ RowsAt w' (g + 1) g M rv (rowOf K M O S) ∧ w.heap.size ≤ g ∧ Below w.heap.size w w' := by
  have hmay : mayB K M O S = true := by simp [mayB]; omega
  have hmk := run_make_row' (P := Tryz.prog) 32 63 (.slice none 0 0) 24 Tryz.underlying32 Tryz.infoInts rfl .i64 .i64 M (by omega) (by omega)
  obtain ⟨i0, hi, hz0, hz1, hz2⟩ := info_parts Tryz.infoInt
  go_enter Tryz.func84, Tryz.ntmps84
  go_wp2_with fail
  refine (maybe_any _ _ _ _ _).mono ?_
  rintro e w' ⟨rfl, rfl⟩
  rw [hmay]
  go_wp2_with fail
  refine (from_any _ _).mono ?_
  rintro e w' ⟨rfl, rfl⟩
  go_wp2_with fail
  go_loopw [6] (fun i wr => ∃ (j : Nat) (rv : Nat → Value), j ≤ K ∧ i = .int .i64 j ∧ WAt w wr w.heap.size (w.heap.size + 1 + 1) (w.heap.size + 1 + 1 + 1) (w.heap.size + 4) K M O S j rv) (fun i _ => K - (intOf i).toNat)
  case atStart =>
    refine ⟨0, fun _ => .slice none 0 0, Nat.zero_le _, rfl, ?_, ?_, ?_, ?_⟩
    · rw [Below.heap_alloc _ _ _ (by simp; omega), Below.heap_alloc _ _ _ (by simp; omega), Below.heap_alloc _ _ _ (by simp)]
      exact heap_alloc_new w _
    · have h := heap_alloc_new (((w.alloc (specB K M O S)).alloc (specB K M O S)).alloc (.cells (madeCells #[.slice none 0 0] M) 63)) (.cells #[.int .i64 (S : Int)] 172 (0, 0))
      simp only [World.size_alloc] at h
      exact h
    · have h := ((RowsAt.made ((w.alloc (specB K M O S)).alloc (specB K M O S)) (w.heap.size + 4) M (by simp)).alloc (.cells #[.int .i64 (S : Int)] 172 (0, 0)))
      simp only [World.size_alloc] at h
      exact h
    · exact ((((Below.refl _ _).alloc (Nat.le_refl _) _).alloc (by simp) _).alloc (by simp; omega) _).alloc (by simp; omega) _
  case round =>
    obtain ⟨j, rv, hj, rfl, hat⟩ := hrel
    obtain ⟨c0, c1, c2, c3⟩ := spec_cells hat.spec
    have hsz := hat.rows.row.lt
    have hbz : w.heap.size + 1 + 1 + 1 < wr.heap.size := (Array.getElem?_eq_some_iff.1 hat.drawer).1
    by_cases hlt : j < K
    · go_wp2_with fail
      refine (choose_any _ _ _ _ _ (dealt_lt M O S j (by omega)) (by omega) (by omega) hat.drawer).mono ?_
      rintro e w1 ⟨cs, rfl, hmks, hdr1, hcg1⟩
      have hmsz := hmks.size
      have hmon := hmks.one
      have Hmks := hide hmks
      clear hmks
      go_wp2_with (refine wpList_store_row rfl 162 (.tmp 7) (.tmp 30) rfl w1.heap.size cs rfl rfl 162 (Array.replicate 20 (.bool false)) (heap_alloc_new w1 _) (by rw [hmsz]; exact Tryz.sizeMarks) (by rw [hmsz]; rfl) hmon ?_)
      have hin := hat.enter (old := Array.replicate 20 (.bool false)) (by omega) (by omega) (by omega) (by omega) hcg1 hdr1 Hmks.out
      have hw1 := hcg1.size
      clear hat hcg1 hdr1 c0 c1 c2 c3
      have hcc : w.heap.size + 4 ≤ w1.heap.size := by omega
      go_loopw [33] (fun i wi => ∃ (n : Nat) (rv' : Nat → Value), n ≤ M ∧ i = .int .i64 n ∧ WIn w wi w.heap.size (w.heap.size + 1 + 1) (w.heap.size + 1 + 1 + 1) (w.heap.size + 4) w1.heap.size K M O S j n rv') (fun i _ => M - (intOf i).toNat)
      case atStart => exact ⟨0, rv, Nat.zero_le _, rfl, hin⟩
      case round =>
        clear hin
        obtain ⟨n, rv', hn, rfl, hin⟩ := hrel
        by_cases hnM : n < M
        · have hmark := hin.marks.cell (show n < 20 from by omega)
          have hcell := hin.rows.cell hnM
          have hfrz := hin.rows.row.frozen n
          have hl1 := dealt_len M O S j n
          have hl2 := withPiece_len (upTo (drawn M (dealt M O S j).1 O).2 n) j (dealt M O S j).2 n
          cases hch : (drawn M (dealt M O S j).1 O).2 n
          · have hnext := hin.skip hch
            rw [hch] at hmark
            clear hin hcell hfrz
            go_wp2
            go_roundw
            case rel => exact ⟨n + 1, rv', by omega, by go_num, hnext⟩
            case measure => simp [intOf]; omega
          · rw [hch] at hmark
            have hown := hin.rows.own n hnM
            have hin0 := hin.rows.row.lt
            have hin1 : w1.heap.size < wr.heap.size := hin.marks.lt
            go_wp2_with (at_builtin; refine wpList_append_lies _ rfl (.tmp 44) (.tmp 46) 63 rfl (w.heap.size + 4) 3 i0 (.int .i64 0) 1 8 Tryz.underlying63 hi hz0 hz1 hz2 rfl (by decide) (rv' n) _ _ rfl (hown.alloc _) ⟨wr.heap.size, 0, none⟩ 1 1 [.int .i64 (j : Int)] rfl rfl (one_news _ _ _) (one_oneCell rfl) (by decide) (by unfold maxLen; omega) (by omega) (by simp; omega) (wr.heap.size + 1) (by simp) ?_)
            intro gg cap w2 hown2 hgr hat2 hlt2
            have hgr0 := grownBy_of_alloc hgr
            have hat0 : (rv' n).ownBlock = some gg ∨ wr.heap.size ≤ gg := by rcases hat2 with h | h; exact Or.inl h; exact Or.inr (by omega)
            obtain ⟨rv2, hnext⟩ := hin.take hch hnM hgr0 (by omega) (by omega) (by omega) (by omega) (by omega) (by omega) hown2 rfl rfl hat0
            have hne : some (w.heap.size + 1 + 1) ≠ (rv' n).ownBlock := fun e => by have := hown.lt _ e.symm; omega
            have hcell2 := (hgr0.cell_far ⟨w.heap.size + 1 + 1, n, none⟩ hin0 hne).trans hcell
            have hfrz2 := (hgr0.frozen_far ⟨w.heap.size + 1 + 1, n, none⟩ hin0 hne).trans hfrz
            clear hown2 hgr hat2 hgr0 hat0 hin hown hmark hne
            go_wp2
            go_roundw
            case rel => exact ⟨n + 1, rv2, by omega, by go_num, hnext⟩
            case measure => simp [intOf]; omega
        · have hnM2 : n = M := by omega
          subst hnM2
          have hnext := hin.leave
          clear hin
          go_wp2
          go_roundw
          case rel => exact ⟨j + 1, rv', by omega, by go_num, hnext⟩
          case measure => simp [intOf]; omega
    · have hjK : j = K := by omega
      subst hjK
      have hend : WEnd w wr w.heap.size (w.heap.size + 1 + 1) (w.heap.size + 4) j M (closedAt j (dealt M O S j).2 0) rv := ⟨⟨M, O, S, hat.spec⟩, hat.rows.congr (fun _ _ => rfl) (fun i _ => by simp [closedAt]), hat.below⟩
      clear hat hbz hsz
      go_wp2
      go_loopw [52] (fun i wi => ∃ (n : Nat) (rv' : Nat → Value), n ≤ M ∧ i = .int .i64 n ∧ WEnd w wi w.heap.size (w.heap.size + 1 + 1) (w.heap.size + 4) j M (closedAt j (dealt M O S j).2 n) rv') (fun i _ => M - (intOf i).toNat)
      case atStart => exact ⟨0, rv, Nat.zero_le _, rfl, hend⟩
      case round =>
        clear hend
        obtain ⟨n, rv', hn, rfl, hend⟩ := hrel
        by_cases hnM : n < M
        · have hlen : (closedAt j (dealt M O S j).2 n n).length ≤ j := by have := dealt_len M O S j n; rw [closedAt_here]; omega
          have hlen2 : (halfAt j (dealt M O S j).2 n n).length ≤ j + 1 := by have := dealt_len M O S j n; have := halfAt_len j (dealt M O S j).2 n; omega
          have i1 : (0 : Int) ≤ (n : Int) := by omega
          have i2 : (n : Int) < (M : Int) := by omega
          have hw1 : IntKind.i64.wrap ((j : Int) + (n : Int)) = (j : Int) + (n : Int) := IntWalk.i64_in _ (by omega)
          have hw2 : IntKind.i64.wrap ((j : Int) + (n : Int) - 1) = (j : Int) + (n : Int) - 1 := IntWalk.i64_in _ (by omega)
          go_upto_if 56 with fail
          go_cut [9] (fun s9 wc => s9 = .int .i64 n ∧ ∃ rv2, WEnd w wc w.heap.size (w.heap.size + 1 + 1) (w.heap.size + 4) j M (halfAt j (dealt M O S j).2 n) rv2)
          case first =>
            by_cases hn0 : 0 < n
            · obtain ⟨m, o, s, hsp⟩ := hend.spec
              obtain ⟨c0, c1, c2, c3⟩ := spec_cells hsp
              clear c1 c2 c3
              have hcell := hend.rows.cell hnM
              have hfrz := hend.rows.row.frozen n
              have hown := hend.rows.own n hnM
              have hin0 := hend.rows.row.lt
              have hhs : w.heap.size < wr.heap.size := (Array.getElem?_eq_some_iff.1 hsp).1
              have hne : some (w.heap.size + 1 + 1) ≠ (rv' n).ownBlock := fun e => by have := hown.lt _ e.symm; omega
              have hcast : (j : Int) + (n : Int) - 1 = ((j + n - 1 : Nat) : Int) := by omega
              have Hc := hide hcast
              clear hcast
              go_wp2
              go_region_law ((refine step_append_lies _ (by rfl) (.tmp 62) (.tmp 68) 63 (by rfl) (w.heap.size + 4) 3 i0 (.int .i64 0) 1 8 Tryz.underlying63 hi hz0 hz1 hz2 rfl (by decide) (rv' n) _ _ (by rfl) (World.ownsRow.drew (World.ownsRow.alloc hown _)) ⟨wr.heap.size, 0, none⟩ 1 1 [.int .i64 ((j : Int) + (n : Int) - 1)] (by rfl) rfl (World.news_of_block (cs := #[_]) (heap_alloc_new wr _)) (one_oneCell rfl) (by decide) (by unfold maxLen; omega) (by omega) (by simp; omega) (wr.heap.size + 1) (by simp) ?_; intro gg cap w2 hown2 hgr hat2 hlt2; have k2 := hgr.cell_far ⟨w.heap.size + 1 + 1, n, none⟩ (by simp; omega) hne; have k3 := hgr.frozen_far ⟨w.heap.size + 1 + 1, n, none⟩ (by simp; omega) hne))
              all_goals
                obtain ⟨rv2, hnext⟩ := hend.push (x := j + n - 1) hnM (grownBy_of_alloc (grownBy_of_drew hgr)) (by omega) (by omega) (by omega) hown2 (by rw [Hc.out]) rfl (by rcases hat2 with h | h; exact Or.inl h; exact Or.inr (by omega))
                have hnext2 := hnext.congr (fun i _ => halfAt_some j (dealt M O S j).2 n hn0 i)
                clear hnext hown2 hgr hat2 hend k2 k3 hown hcell hfrz
                go_wp2
                go_meet
                case rel => exact ⟨rfl, rv2, hnext2⟩
            · have hn0' : n = 0 := by omega
              subst hn0'
              have hnext2 := hend.congr (fun i _ => (halfAt_none j (dealt M O S j).2 i).symm)
              clear hend
              go_wp2
              go_meet
              case rel => exact ⟨rfl, rv', hnext2⟩
          case rest =>
            clear hend
            obtain ⟨rfl, rv2, hend⟩ := hcut
            obtain ⟨m, o, s, hsp⟩ := hend.spec
            obtain ⟨c0, c1, c2, c3⟩ := spec_cells hsp
            clear c1 c2 c3
            have hcell := hend.rows.cell hnM
            have hfrz := hend.rows.row.frozen n
            have hown := hend.rows.own n hnM
            have hin0 := hend.rows.row.lt
            have hhs : w.heap.size < wc.heap.size := (Array.getElem?_eq_some_iff.1 hsp).1
            have hne : some (w.heap.size + 1 + 1) ≠ (rv2 n).ownBlock := fun e => by have := hown.lt _ e.symm; omega
            have hcast : (j : Int) + (n : Int) = ((j + n : Nat) : Int) := by omega
            have Hc := hide hcast
            clear hcast
            go_wp2
            go_region_law ((refine step_append_lies _ (by rfl) (.tmp 76) (.tmp 81) 63 (by rfl) (w.heap.size + 4) 3 i0 (.int .i64 0) 1 8 Tryz.underlying63 hi hz0 hz1 hz2 rfl (by decide) (rv2 n) _ _ (by rfl) (World.ownsRow.drew (World.ownsRow.alloc hown _)) ⟨wc.heap.size, 0, none⟩ 1 1 [.int .i64 ((j : Int) + (n : Int))] (by rfl) rfl (World.news_of_block (cs := #[_]) (heap_alloc_new wc _)) (one_oneCell rfl) (by decide) (by unfold maxLen; omega) (by omega) (by simp; omega) (wc.heap.size + 1) (by simp) ?_; intro gg cap w2 hown2 hgr hat2 hlt2; have k2 := hgr.cell_far ⟨w.heap.size + 1 + 1, n, none⟩ (by simp; omega) hne; have k3 := hgr.frozen_far ⟨w.heap.size + 1 + 1, n, none⟩ (by simp; omega) hne))
            all_goals
              obtain ⟨rv3, hnext⟩ := hend.push (x := j + n) hnM (grownBy_of_alloc (grownBy_of_drew hgr)) (by omega) (by omega) (by omega) hown2 (by rw [Hc.out]) rfl (by rcases hat2 with h | h; exact Or.inl h; exact Or.inr (by omega))
              have hnext2 := hnext.congr (fun i _ => halfAt_close j (dealt M O S j).2 n i)
              clear hnext hown2 hgr hat2 hend k2 k3 hown hcell hfrz
              go_wp2
              go_roundw
              case rel => exact ⟨n + 1, rv3, by omega, by go_num, hnext2⟩
              case measure => simp [intOf]; omega
        · have hnM2 : n = M := by omega
          subst hnM2
          have hrows : RowsAt wr (w.heap.size + 1 + 1 + 1) (w.heap.size + 1 + 1) n rv' (rowOf j n O S) := (hend.rows.congr (fun _ _ => rfl) (fun i hi => closedAt_all j n O S i hi)).rebase (by omega) (by omega)
          have hbel := hend.below
          clear hend
          go_wp2
          go_ret2
          exact ⟨_, rv', rfl, hrows, by omega, hbel⟩

set_option maxRecDepth 100000 in
set_option maxHeartbeats 400000 in
theorem wrows_bad (K M O S : Int) (w : World) (hmay : mayB K M O S = false) :
    Calls Tryz.prog 84 #[specV K M O S] w fun e w' => e = .returned (.tuple #[.slice none 0 0, .int .i64 1]) ∧ Below w.heap.size w w' := by
  go_enter Tryz.func84, Tryz.ntmps84
  go_wp2_with fail
  refine (maybe_any _ _ _ _ _).mono ?_
  rintro e w' ⟨rfl, rfl⟩
  rw [hmay]
  go_wp2
  go_ret2
  exact ⟨rfl, ((Below.refl _ _).alloc (Nat.le_refl _) _).alloc (by simp) _⟩

set_option maxRecDepth 100000 in
set_option maxHeartbeats 400000 in
/-- What refill.Rows does. -/
theorem rows_ok (K M O S : Nat) (w : World) (hK : 1 ≤ K ∧ K ≤ 20) (hM : 1 ≤ M ∧ M ≤ 20) (hO : 1 ≤ O ∧ O ≤ M) (hS : S ≤ 65535) :
    Calls Tryz.prog 68 #[specV K M O S] w fun e w' => ∃ g rv, e = .returned (.tuple #[.slice (some ⟨g, 0, none⟩) M M, .int .i64 0]) ∧ RowsAt w' (g + 1) g M rv (rowOf K M O S) ∧ w.heap.size ≤ g ∧ Below w.heap.size w w' := by
  go_enter Tryz.func68, Tryz.ntmps68
  go_wp2_with fail
  refine (wrows_ok K M O S _ hK hM hO hS).mono ?_
  rintro e w1 ⟨g, rv, rfl, hr, hg, hb⟩
  have hb' : Below w.heap.size w w1 := ((Below.refl _ _).alloc (Nat.le_refl _) _).trans (hb.mono (by simp))
  have hg' : w.heap.size ≤ g := by simp at hg; omega
  clear hb hg
  go_wp2
  go_ret2
  exact ⟨g, rv, rfl, hr, hg', hb'⟩

set_option maxRecDepth 100000 in
set_option maxHeartbeats 400000 in
theorem rows_bad (K M O S : Int) (w : World) (hmay : mayB K M O S = false) :
    Calls Tryz.prog 68 #[specV K M O S] w fun e w' => e = .returned (.tuple #[.slice none 0 0, .int .i64 1]) ∧ Below w.heap.size w w' := by
  go_enter Tryz.func68, Tryz.ntmps68
  go_wp2_with fail
  refine (wrows_bad K M O S _ hmay).mono ?_
  rintro e w1 ⟨rfl, hb⟩
  have hb' : Below w.heap.size w w1 := ((Below.refl _ _).alloc (Nat.le_refl _) _).trans (hb.mono (by simp))
  clear hb
  go_wp2
  go_ret2
  exact ⟨rfl, hb'⟩

end Go.Proofs.YtnjaofkieajnlaaGreat

/- The document's answer: has, and its Rows; and sameRows, which holds two tables of rows against each other. -/
namespace Go.Proofs.YtnjaofkieajnlaaGreat
open Go.RowKit

/-- The cells of an owned row of numbers. -/
theorem owns_cells {w : World} {base : Nat} {v : Value} {l : List Nat} (h : w.ownsRow base 3 1 v l.length (numsV l)) : (v = .slice none 0 0 ∧ l = []) ∨
    ∃ g cap, v = .slice (some ⟨g, 0, none⟩) l.length cap ∧ l.length ≤ cap ∧ ∀ k, k < l.length → w.cell? ⟨g, k, none⟩ = some (.int .i64 (l.getD k 0 : Int)) := by
  rcases h.2 with ⟨rfl, hn⟩ | ⟨g, cap, cur, rfl, _, hg, hc, _, _, ht⟩
  · exact Or.inl ⟨rfl, by simpa using hn⟩
  · refine Or.inr ⟨g, cap, rfl, hc, fun k hk => ?_⟩
    rw [cell_of_row _ _ _ _ _ _ hg]
    have h1 : (numsV l)[k]? = some (.int .i64 (l.getD k 0 : Int)) := by simp [numsV, hk]
    rw [← ht, List.getElem?_take] at h1
    rw [if_pos (by omega)] at h1
    simpa using h1

set_option maxRecDepth 100000 in
set_option maxHeartbeats 1000000 in
theorem has_any (v : Value) (l : List Nat) (n base : Nat) (w : World) (hl : l.length ≤ 1000000) (hown : w.ownsRow base 3 1 v l.length (numsV l)) :
    Calls Tryz.prog 103 #[v, .int .i64 (n : Int)] w fun e w' => e = .returned (.bool (decide (n ∈ l))) ∧ w' = w := by
  rcases owns_cells hown with ⟨rfl, rfl⟩ | ⟨g, cap, rfl, hcap, hc⟩
  · clear hown
    go_enter Tryz.func103, Tryz.ntmps103
    go_wp2
    refine wp_loop_rounds 1 ?_
    rw [rounds_succ]
    go_wp2
    go_ret
    exact ⟨ret_bool (by simp), rfl⟩
  · clear hown
    go_enter Tryz.func103, Tryz.ntmps103
    go_wp2
    go_loop [9] (fun i => ∃ k : Nat, k ≤ l.length ∧ i = .int .i64 k ∧ n ∉ l.take k) (fun i => l.length - (intOf i).toNat)
    case atStart => exact ⟨0, Nat.zero_le _, rfl, by simp⟩
    case round =>
      obtain ⟨k, hk, rfl, hno⟩ := hrel
      by_cases hlt : k < l.length
      · have hcell := hc k hlt
        have hget : l.getD k 0 = l[k] := by simp [hlt]
        have htk : l.take (k + 1) = l.take k ++ [l[k]] := by rw [List.take_succ_eq_append_getElem hlt]
        rw [hget] at hcell
        clear hc hget
        generalize hx : l[k] = x at *
        have Hx := hide hx
        have Ht := hide htk
        clear hx htk
        by_cases he : x = n
        · have he2 : ((x : Int) == (n : Int)) = true := by simp [he]
          have He := hide he
          clear he
          go_wp2
          go_ret
          exact ⟨ret_bool (by simp; rw [← He.out, ← Hx.out]; exact List.getElem_mem hlt), rfl⟩
        · have he2 : ((x : Int) == (n : Int)) = false := by simp; omega
          go_wp2
          go_round
          case rel => exact ⟨k + 1, by omega, by go_num, by rw [Ht.out]; simp [hno]; omega⟩
          case measure => simp [intOf]; omega
      · have hall : l.take k = l := List.take_of_length_le (by omega)
        rw [hall] at hno
        go_wp2
        go_ret
        exact ⟨ret_bool (by simp), rfl⟩

end Go.Proofs.YtnjaofkieajnlaaGreat

/- What the document's own Rows (package refillref) does: the same rows in new memory. -/
namespace Go.Proofs.YtnjaofkieajnlaaGreat
open Go.RowKit

/-- Where refillref.Rows stands: the specification's block h, the rows' block g. -/
structure RAt (w wr : World) (h g base K M O S : Nat) (L : Nat → List Nat) (rv : Nat → Value) : Prop where
  spec : wr.heap[h]? = some (specB K M O S)
  rows : RowsAt wr base g M rv L
  below : Below w.heap.size w wr

theorem RAt.congr {w wr : World} {h g base K M O S : Nat} {L L' : Nat → List Nat} {rv : Nat → Value} (a : RAt w wr h g base K M O S L rv) (hl : ∀ i, i < M → L i = L' i) : RAt w wr h g base K M O S L' rv :=
  ⟨a.spec, a.rows.congr (fun _ _ => rfl) hl, a.below⟩

theorem RAt.on {w wr w1 : World} {h g base K M O S : Nat} {L : Nat → List Nat} {rv : Nat → Value} (a : RAt w wr h g base K M O S L rv) (hb : Below wr.heap.size wr w1) : RAt w w1 h g base K M O S L rv :=
  ⟨by rw [hb.block h (Array.getElem?_eq_some_iff.1 a.spec).1]; exact a.spec, a.rows.below hb, a.below.trans (hb.mono a.below.size)⟩

theorem RAt.push {w wr w1 : World} {h g base K M O S n x gg cap n' : Nat} {L : Nat → List Nat} {rv : Nat → Value} {xs : List Value} (a : RAt w wr h g base K M O S L rv)
    (hnM : n < M) (hg1 : wr.grownBy w1 (rv n).ownBlock) (hh : h < base) (hhg : h ≠ g) (hwg : w.heap.size ≤ g)
    (hown : w1.ownsRow base 3 1 (.slice (some ⟨gg, 0, none⟩) n' cap) n' xs) (hxs : xs = numsV (L n) ++ [.int .i64 (x : Int)]) (hn' : n' = (L n).length + 1) (hat : (rv n).ownBlock = some gg ∨ wr.heap.size ≤ gg) :
    ∃ rv', RAt w (w1.setCell ⟨g, n, none⟩ (.slice (some ⟨gg, 0, none⟩) n' cap)) h g base K M O S (fun k => if k = n then L n ++ [x] else L k) rv' := by
  have hrow := (a.rows.own n hnM).lt
  have hgb := a.rows.gb
  have hhl : h < wr.heap.size := (Array.getElem?_eq_some_iff.1 a.spec).1
  refine ⟨_, ?_, a.rows.push hnM hg1 hown hxs hn' hat, ?_⟩
  · rw [Below.heap_setCell _ _ _ _ (by exact hhg), hg1.block h hhl (fun e => by have := hrow h e.symm; omega)]; exact a.spec
  · exact (((Chg.of_below a.below (fun _ => False)).grown hg1 (fun k e => Or.inl (by have := hrow k e; omega))).setCell (Or.inl hwg) _).below (fun _ _ f => f)

set_option maxRecDepth 100000 in
set_option maxHeartbeats 4000000 in
theorem rrows_ok (K M O S : Nat) (w : World) (hK : 1 ≤ K ∧ K ≤ 20) (hM : 1 ≤ M ∧ M ≤ 20) (hO : 1 ≤ O ∧ O ≤ M) (hS : S ≤ 65535) :
    Calls Tryz.prog 69 #[specV K M O S] w fun e w' => ∃ g rv, e = .returned (.slice (some ⟨g, 0, none⟩) M M) ∧ RowsAt w' (g + 1) g M rv (rowOf K M O S) ∧ w.heap.size ≤ g ∧ Below w.heap.size w w' := by
  have hmk := run_make_row' (P := Tryz.prog) 32 63 (.slice none 0 0) 24 Tryz.underlying32 Tryz.infoInts rfl .i64 .i64 M (by omega) (by omega)
  obtain ⟨i0, hi, hz0, hz1, hz2⟩ := info_parts Tryz.infoInt
  go_enter Tryz.func69, Tryz.ntmps69
  go_wp2_with fail
  go_loopw [4, 5] (fun x i wr => ∃ (j : Nat) (rv : Nat → Value), j ≤ K ∧ i = .int .i64 j ∧ x = .int .i64 ((dealt M O S j).1 : Int) ∧ RAt w wr w.heap.size (w.heap.size + 1) (w.heap.size + 2) K M O S (dealt M O S j).2 rv) (fun _ i _ => K - (intOf i).toNat)
  case atStart =>
    refine ⟨0, fun _ => .slice none 0 0, Nat.zero_le _, rfl, rfl, ?_, ?_, ?_⟩
    · rw [Below.heap_alloc _ _ _ (by simp)]
      exact heap_alloc_new w _
    · have h := RowsAt.made (w.alloc (specB K M O S)) (w.heap.size + 2) M (by simp)
      simp only [World.size_alloc] at h
      exact h
    · exact ((Below.refl _ _).alloc (Nat.le_refl _) _).alloc (by simp) _
  case round =>
    obtain ⟨j, rv, hj, rfl, rfl, hat⟩ := hrel
    obtain ⟨c0, c1, c2, c3⟩ := spec_cells hat.spec
    by_cases hlt : j < K
    · have hat0 : RAt w wr w.heap.size (w.heap.size + 1) (w.heap.size + 2) K M O S (withPiece (drawn M (dealt M O S j).1 0).2 j (dealt M O S j).2) rv := hat.congr (fun i _ => (withPiece_none j _ i).symm)
      clear hat
      go_wp2_with fail
      clear c0 c1 c2 c3
      go_loopw [4, 6] (fun x i wr => ∃ (n : Nat) (rv : Nat → Value), n ≤ O ∧ i = .int .i64 n ∧ x = .int .i64 ((drawn M (dealt M O S j).1 n).1 : Int) ∧ RAt w wr w.heap.size (w.heap.size + 1) (w.heap.size + 2) K M O S (withPiece (drawn M (dealt M O S j).1 n).2 j (dealt M O S j).2) rv) (fun _ i _ => O - (intOf i).toNat)
      case atStart => exact ⟨0, rv, Nat.zero_le _, rfl, rfl, hat0⟩
      case round =>
        clear hat0
        obtain ⟨n, rv1, hn, rfl, rfl, hat⟩ := hrel
        obtain ⟨W2, rfl⟩ : ∃ W, W = wr := ⟨_, rfl⟩
        obtain ⟨c0, c1, c2, c3⟩ := spec_cells hat.spec
        by_cases hnO : n < O
        · have hx := drawn_lt M (dealt M O S j).1 n (dealt_lt M O S j (by omega))
          have hcast : (75 * ((drawn M (dealt M O S j).1 n).1 : Int) + 74) % 65537 = ((nxt (drawn M (dealt M O S j).1 n).1 : Nat) : Int) := by unfold nxt; omega
          have Hc := hide hcast
          clear hcast
          go_wp2_with fail
          rw [Hc.out]
          clear c0 c1 c2 c3
          go_loopw [7, 35] (fun v i wr => ∃ k : Nat, k ≤ M ∧ i = .int .i64 k ∧ wr.ownsRow W2.heap.size 3 1 v (opens (drawn M (dealt M O S j).1 n).2 k).length (numsV (opens (drawn M (dealt M O S j).1 n).2 k)) ∧ Below W2.heap.size W2 wr) (fun _ i _ => M - (intOf i).toNat)
          case atStart => exact ⟨0, Nat.zero_le _, rfl, World.ownsRow_nil _ _ _ _, Below.refl _ _⟩
          case round =>
            obtain ⟨k, hk, rfl, hop, hbel⟩ := hrel
            have hatr := hat.on hbel
            by_cases hkM : k < M
            · have hcell := hatr.rows.cell hkM
              have hown := hatr.rows.own k hkM
              have hl1 := dealt_len M O S j k
              have hl2 := withPiece_len (drawn M (dealt M O S j).1 n).2 j (dealt M O S j).2 k
              have hdec := mem_withPiece (ch := (drawn M (dealt M O S j).1 n).2) (j := j) (L := (dealt M O S j).2) (i := k) (fun q hq => dealt_mem M O S j k q hq)
              have Hd := hide hdec
              clear hdec
              have hos := opens_succ (drawn M (dealt M O S j).1 n).2 k
              have hol := opens_len_le (drawn M (dealt M O S j).1 n).2 k
              have Ho := hide hos
              clear hos
              go_wp2_with fail
              refine (has_any (rv1 k) _ j _ _ (by omega) hown).mono ?_
              rintro e w1 ⟨rfl, rfl⟩
              rw [Hd.out]
              cases hch : (drawn M (dealt M O S j).1 n).2 k
              · rw [hch] at Ho
                have hsz := hbel.size
                clear hown hcell hatr
                go_wp2_with (at_builtin; refine wpList_append_lies _ rfl (.tmp 46) (.tmp 48) 63 rfl W2.heap.size 3 i0 (.int .i64 0) 1 8 Tryz.underlying63 hi hz0 hz1 hz2 rfl (by decide) _ _ _ rfl (hop.alloc _) ⟨w1.heap.size, 0, none⟩ 1 1 [.int .i64 (k : Int)] rfl rfl (one_news _ _ _) (one_oneCell rfl) (by decide) (by unfold maxLen; omega) (by omega) (by simp; omega) (w1.heap.size + 1) (by simp) ?_)
                intro gg cap w2 hown2 hgr hat2 hlt2
                have hb2 : Below W2.heap.size W2 w2 := (hbel.alloc hsz _).grown hgr (by simp; omega) (fun q hq => (hop.lt q hq).1)
                have hown3 : w2.ownsRow W2.heap.size 3 1 (.slice (some ⟨gg, 0, none⟩) ((opens (drawn M (dealt M O S j).1 n).2 k).length + 1) cap) (opens (drawn M (dealt M O S j).1 n).2 (k + 1)).length (numsV (opens (drawn M (dealt M O S j).1 n).2 (k + 1))) := by
                  rw [Ho.out]; simpa [numsV_append, numsV] using hown2
                clear hown2 hgr hat2 hbel hop
                go_wp2
                go_roundw
                case rel => exact ⟨k + 1, by omega, by go_num, hown3, hb2⟩
                case measure => simp [intOf]; omega
              · rw [hch] at Ho
                go_wp2
                go_roundw
                case rel => exact ⟨k + 1, by omega, by go_num, by rw [Ho.out]; simpa using hop, hbel⟩
                case measure => simp [intOf]; omega
            · have hkM2 : k = M := by omega
              subst hkM2
              have hlen := drawn_open k (dealt k O S j).1 n (by omega)
              have hd : nxt (drawn k (dealt k O S j).1 n).1 % (k - n) < (opens (drawn k (dealt k O S j).1 n).2 k).length := by rw [hlen]; exact Nat.mod_lt _ (by omega)
              obtain ⟨hpk, hpf⟩ := pickOpen_spec hd
              rcases owns_cells hop with ⟨_, hnil⟩ | ⟨go, capo, rfl, hcapo, hco⟩
              · rw [hnil] at hd; simp at hd
              · have hdc := hco _ hd
                have hpe : (opens (drawn k (dealt k O S j).1 n).2 k).getD (nxt (drawn k (dealt k O S j).1 n).1 % (k - n)) 0 = pickOpen (drawn k (dealt k O S j).1 n).2 k (nxt (drawn k (dealt k O S j).1 n).1 % (k - n)) := rfl
                rw [hpe] at hdc
                rw [hlen]
                rw [hlen] at hd hcapo
                clear hco hpe hop
                have hds : (drawn k (dealt k O S j).1 (n + 1)).2 = fun i => (drawn k (dealt k O S j).1 n).2 i || i == pickOpen (drawn k (dealt k O S j).1 n).2 k (nxt (drawn k (dealt k O S j).1 n).1 % (k - n)) := rfl
                generalize hr : pickOpen (drawn k (dealt k O S j).1 n).2 k (nxt (drawn k (dealt k O S j).1 n).1 % (k - n)) = r at *
                have Hds := hide hds
                clear hds hr
                have hl1 := dealt_len k O S j r
                have hl2 := withPiece_len (drawn k (dealt k O S j).1 n).2 j (dealt k O S j).2 r
                have hcell := hatr.rows.cell hpk
                have hfrz := hatr.rows.row.frozen r
                have hown := hatr.rows.own r hpk
                have hin0 := hatr.rows.row.lt
                have hsp0 : w.heap.size < wr.heap.size := (Array.getElem?_eq_some_iff.1 hatr.spec).1
                have hm : ((nxt (drawn k (dealt k O S j).1 n).1 : Nat) : Int) % ((k - n : Nat) : Int) = ((nxt (drawn k (dealt k O S j).1 n).1 % (k - n) : Nat) : Int) := by omega
                have hkn : 0 < k - n := by omega
                generalize nxt (drawn k (dealt k O S j).1 n).1 % (k - n) = d at *
                clear hlen
                go_wp2_with (at_builtin; refine wpList_append_lies _ rfl (.tmp 63) (.tmp 65) 63 rfl (w.heap.size + 2) 3 i0 (.int .i64 0) 1 8 Tryz.underlying63 hi hz0 hz1 hz2 rfl (by decide) (rv1 r) _ _ rfl (hown.alloc _) ⟨wr.heap.size, 0, none⟩ 1 1 [.int .i64 (j : Int)] rfl rfl (one_news _ _ _) (one_oneCell rfl) (by decide) (by unfold maxLen; omega) (by omega) (by simp; omega) (wr.heap.size + 1) (by simp) ?_)
                intro gg cap w2 hown2 hgr hat2 hlt2
                have hgr0 := grownBy_of_alloc hgr
                obtain ⟨rv2, hnext⟩ := hatr.push (x := j) hpk hgr0 (by omega) (by omega) (by omega) hown2 rfl rfl (by rcases hat2 with h | h; exact Or.inl h; exact Or.inr (by omega))
                have hnext2 : RAt w _ w.heap.size (w.heap.size + 1) (w.heap.size + 2) K k O S (withPiece (drawn k (dealt k O S j).1 (n + 1)).2 j (dealt k O S j).2) rv2 := hnext.congr (fun i _ => by rw [Hds.out]; exact withPiece_set hpf i)
                have hne : some (w.heap.size + 1) ≠ (rv1 r).ownBlock := fun e => by have := hown.lt _ e.symm; omega
                have hcell2 := (hgr0.cell_far ⟨w.heap.size + 1, r, none⟩ hin0 hne).trans hcell
                have hfrz2 := (hgr0.frozen_far ⟨w.heap.size + 1, r, none⟩ hin0 hne).trans hfrz
                clear hown2 hgr hat2 hgr0 hnext hown hne hat hatr hcell hfrz Hds
                go_wp2
                go_roundw
                case rel => exact ⟨n + 1, rv2, by omega, by go_num, rfl, hnext2⟩
                case measure => simp [intOf]; omega
        · have hnO2 : n = O := by omega
          subst hnO2
          have hnext : RAt w W2 w.heap.size (w.heap.size + 1) (w.heap.size + 2) K M n S (dealt M n S (j + 1)).2 rv1 := by rw [dealt_succ]; exact hat
          clear hat
          go_wp2
          go_roundw
          case rel => exact ⟨j + 1, rv1, by omega, by go_num, rfl, hnext⟩
          case measure => simp [intOf]; omega
    · have hjK : j = K := by omega
      subst hjK
      have hend : RAt w wr w.heap.size (w.heap.size + 1) (w.heap.size + 2) j M O S (closedAt j (dealt M O S j).2 0) rv := hat.congr (fun i _ => by simp [closedAt])
      clear hat
      go_wp2
      go_loopw [70] (fun i wi => ∃ (n : Nat) (rv' : Nat → Value), n ≤ M ∧ i = .int .i64 n ∧ RAt w wi w.heap.size (w.heap.size + 1) (w.heap.size + 2) j M O S (closedAt j (dealt M O S j).2 n) rv') (fun i _ => M - (intOf i).toNat)
      case atStart => exact ⟨0, rv, Nat.zero_le _, rfl, hend⟩
      case round =>
        clear hend
        obtain ⟨n, rv', hn, rfl, hend⟩ := hrel
        by_cases hnM : n < M
        · have hlen : (closedAt j (dealt M O S j).2 n n).length ≤ j := by have := dealt_len M O S j n; rw [closedAt_here]; omega
          have hlen2 : (halfAt j (dealt M O S j).2 n n).length ≤ j + 1 := by have := dealt_len M O S j n; have := halfAt_len j (dealt M O S j).2 n; omega
          have i1 : (0 : Int) ≤ (n : Int) := by omega
          have i2 : (n : Int) < (M : Int) := by omega
          have hw1 : IntKind.i64.wrap ((j : Int) + (n : Int)) = (j : Int) + (n : Int) := IntWalk.i64_in _ (by omega)
          have hw2 : IntKind.i64.wrap ((j : Int) + (n : Int) - 1) = (j : Int) + (n : Int) - 1 := IntWalk.i64_in _ (by omega)
          go_upto_if 74 with fail
          go_cut [11] (fun s9 wc => s9 = .int .i64 n ∧ ∃ rv2, RAt w wc w.heap.size (w.heap.size + 1) (w.heap.size + 2) j M O S (halfAt j (dealt M O S j).2 n) rv2)
          case first =>
            by_cases hn0 : 0 < n
            · have hsp := hend.spec
              obtain ⟨c0, c1, c2, c3⟩ := spec_cells hsp
              clear c1 c2 c3
              have hcell := hend.rows.cell hnM
              have hfrz := hend.rows.row.frozen n
              have hown := hend.rows.own n hnM
              have hin0 := hend.rows.row.lt
              have hhs : w.heap.size < wr.heap.size := (Array.getElem?_eq_some_iff.1 hsp).1
              have hne : some (w.heap.size + 1) ≠ (rv' n).ownBlock := fun e => by have := hown.lt _ e.symm; omega
              have hcast : (j : Int) + (n : Int) - 1 = ((j + n - 1 : Nat) : Int) := by omega
              have Hc := hide hcast
              clear hcast hsp
              go_wp2
              go_region_law ((refine step_append_lies _ (by rfl) (.tmp 80) (.tmp 86) 63 (by rfl) (w.heap.size + 2) 3 i0 (.int .i64 0) 1 8 Tryz.underlying63 hi hz0 hz1 hz2 rfl (by decide) (rv' n) _ _ (by rfl) (World.ownsRow.drew (World.ownsRow.alloc hown _)) ⟨wr.heap.size, 0, none⟩ 1 1 [.int .i64 ((j : Int) + (n : Int) - 1)] (by rfl) rfl (World.news_of_block (cs := #[_]) (heap_alloc_new wr _)) (one_oneCell rfl) (by decide) (by unfold maxLen; omega) (by omega) (by simp; omega) (wr.heap.size + 1) (by simp) ?_; intro gg cap w2 hown2 hgr hat2 hlt2; have k2 := hgr.cell_far ⟨w.heap.size + 1, n, none⟩ (by simp; omega) hne; have k3 := hgr.frozen_far ⟨w.heap.size + 1, n, none⟩ (by simp; omega) hne))
              all_goals
                obtain ⟨rv2, hnext⟩ := hend.push (x := j + n - 1) hnM (grownBy_of_alloc (grownBy_of_drew hgr)) (by omega) (by omega) (by omega) hown2 (by rw [Hc.out]) rfl (by rcases hat2 with h | h; exact Or.inl h; exact Or.inr (by omega))
                have hnext2 := hnext.congr (fun i _ => halfAt_some j (dealt M O S j).2 n hn0 i)
                clear hnext hown2 hgr hat2 hend k2 k3 hown hcell hfrz
                go_wp2
                go_meet
                case rel => exact ⟨rfl, rv2, hnext2⟩
            · have hn0' : n = 0 := by omega
              subst hn0'
              have hnext2 := hend.congr (fun i _ => (halfAt_none j (dealt M O S j).2 i).symm)
              clear hend
              go_wp2
              go_meet
              case rel => exact ⟨rfl, rv', hnext2⟩
          case rest =>
            clear hend
            obtain ⟨rfl, rv2, hend⟩ := hcut
            have hsp := hend.spec
            obtain ⟨c0, c1, c2, c3⟩ := spec_cells hsp
            clear c1 c2 c3
            have hcell := hend.rows.cell hnM
            have hfrz := hend.rows.row.frozen n
            have hown := hend.rows.own n hnM
            have hin0 := hend.rows.row.lt
            have hhs : w.heap.size < wc.heap.size := (Array.getElem?_eq_some_iff.1 hsp).1
            have hne : some (w.heap.size + 1) ≠ (rv2 n).ownBlock := fun e => by have := hown.lt _ e.symm; omega
            have hcast : (j : Int) + (n : Int) = ((j + n : Nat) : Int) := by omega
            have Hc := hide hcast
            clear hcast hsp
            go_wp2
            go_region_law ((refine step_append_lies _ (by rfl) (.tmp 94) (.tmp 99) 63 (by rfl) (w.heap.size + 2) 3 i0 (.int .i64 0) 1 8 Tryz.underlying63 hi hz0 hz1 hz2 rfl (by decide) (rv2 n) _ _ (by rfl) (World.ownsRow.drew (World.ownsRow.alloc hown _)) ⟨wc.heap.size, 0, none⟩ 1 1 [.int .i64 ((j : Int) + (n : Int))] (by rfl) rfl (World.news_of_block (cs := #[_]) (heap_alloc_new wc _)) (one_oneCell rfl) (by decide) (by unfold maxLen; omega) (by omega) (by simp; omega) (wc.heap.size + 1) (by simp) ?_; intro gg cap w2 hown2 hgr hat2 hlt2; have k2 := hgr.cell_far ⟨w.heap.size + 1, n, none⟩ (by simp; omega) hne; have k3 := hgr.frozen_far ⟨w.heap.size + 1, n, none⟩ (by simp; omega) hne))
            all_goals
              obtain ⟨rv3, hnext⟩ := hend.push (x := j + n) hnM (grownBy_of_alloc (grownBy_of_drew hgr)) (by omega) (by omega) (by omega) hown2 (by rw [Hc.out]) rfl (by rcases hat2 with h | h; exact Or.inl h; exact Or.inr (by omega))
              have hnext2 := hnext.congr (fun i _ => halfAt_close j (dealt M O S j).2 n i)
              clear hnext hown2 hgr hat2 hend k2 k3 hown hcell hfrz
              go_wp2
              go_roundw
              case rel => exact ⟨n + 1, rv3, by omega, by go_num, hnext2⟩
              case measure => simp [intOf]; omega
        · have hnM2 : n = M := by omega
          subst hnM2
          have hrows : RowsAt wr (w.heap.size + 1 + 1) (w.heap.size + 1) n rv' (rowOf j n O S) := (hend.rows.congr (fun _ _ => rfl) (fun i hi => closedAt_all j n O S i hi)).rebase (by omega) (by omega)
          have hbel := hend.below
          clear hend
          go_wp2
          go_ret
          exact ⟨_, rv', rfl, hrows, by omega, hbel⟩

end Go.Proofs.YtnjaofkieajnlaaGreat
